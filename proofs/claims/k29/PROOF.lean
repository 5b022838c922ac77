import PyProof.Rows.All
import Wide.All
import OpenK.AllK
import Wide.FinOn
import KE.KStateDown
import HandS.ForMost
import HandS.More
import HandS.WordsExc
import HandS.Defaults
import HandS.MakeKwOnly
import HandS.IsInst
import HandS.FStr
import HandS.Walk
import HandS.TupAny
import HandS.SortKw
import HandS.OwnEq
import KE.KFmtOwn
import KE.DataMinMax
import KE.DatumOrd
import KE.SortData
import HandS.Deep
import HandS.SetKeys
import HandS.DictComp
import HandS.Conv
import HandS.Style
import HandS.Evl
import HandS.Head0
import HandS.Head1
import HandS.Head2
import HandS.HeadEnd
import HandS.HeadHook1
import HandS.HeadHook2
import PySem.Challenge.RW_unitwants_k29_causes
import HandS.TryOnly
import HandS.Star
import HandS.MakeKw
import HandS.ExcInit
import HandS.ExcValue
import HandS.ExcCtx
import HandS.ExcInitHot
import HandS.HotCalls
import HandS.ExcField
import HandS.ExcIs
import HandS.FStrTup
import HandS.Set
import HandS.SetTxt0
import KE.KExcInit
import KE.KExcIs
set_option Elab.async false
set_option linter.all false
set_option maxRecDepth 100000
set_option maxHeartbeats 4000000
/-! own layer: heaps, rules that lacked, the bag of draws -/
namespace UW
open PySem PySem.Spec PyProof.Rows L2

/-! ### heaps -/
theorem same_upd {H : Hp} {p : Addr} {o : HO} (h : H p = none) : Same H (upd H p o) := fun b x e => by
  rw [upd_ne (ne_of_none e h)]
  exact e
theorem new_at {H H2 : Hp} {p : Addr} {o : HO} (e : upd H p o = H2) : H2 p = some o := by
  rw [← e]
  exact upd_same
theorem new_same {H H2 : Hp} {p : Addr} {o : HO} (e : upd H p o = H2) (h : H p = none) : Same H H2 := by
  rw [← e]
  exact same_upd h
/-- all but p is as it was -/
def Kp (p : Addr) (H H' : Hp) : Prop := ∀ c o, H c = some o → c ≠ p → H' c = some o
theorem Kp.refl (p : Addr) (H : Hp) : Kp p H H := fun _ _ h _ => h
theorem Kp.trans {p : Addr} {H H1 H2 : Hp} (a : Kp p H H1) (b : Kp p H1 H2) : Kp p H H2 := fun c o h n => b c o (a c o h n) n
theorem Kp.of {p : Addr} {H H' : Hp} (s : Same H H') : Kp p H H' := fun c o h _ => s c o h
theorem Kp.same {p : Addr} {H H1 H2 : Hp} (a : Kp p H H1) (b : Same H1 H2) : Kp p H H2 := a.trans (.of b)
theorem mut_keep {H H2 : Hp} {p : Addr} {o : HO} (e : upd H p o = H2) : Kp p H H2 := fun c x h n => by
  rw [← e, upd_ne n]
  exact h
/-- an object that H did not know has changed -/
theorem Kp.own {p q : Addr} {H H1 H2 : Hp} (a : Kp p H H1) (b : Kp q H1 H2) (n : H q = none) : Kp p H H2 := fun c o h m => b c o (a c o h m) (ne_of_none h n)
theorem Same.own {q : Addr} {H H1 H2 : Hp} (a : Same H H1) (b : Kp q H1 H2) (n : H q = none) : Same H H2 := fun c o h => b c o (a c o h) (ne_of_none h n)
theorem Kp.free {p q : Addr} {H H' : Hp} (a : Kp p H H') (h : H' q = none) (n : q ≠ p) : H q = none := by
  cases e : H q with
  | none => rfl
  | some o =>
    rw [a q o e n] at h
    cases h
theorem Kp.seq {K : PySem.W.Frag} {p a : Addr} {H H' : Hp} {xs : List V} (k : Kp p H H') (n : a ≠ p) (h : SqL K H a xs) : SqL K H' a xs := by
  rcases h with (h | ⟨o, h⟩) | h
  · exact .inl (.inl (k _ _ h n))
  · exact .inl (.inr ⟨o, k _ _ h n⟩)
  · exact .inr h
theorem ne_some {H : Hp} {a b : Addr} {o : HO} (h : H a = some o) (n : H b = none) : a ≠ b := fun e => by
  rw [e, n] at h
  cases h

/-! ### rules that lacked -/
section
variable {X : Cx}
def CPowL (i j : Int) : Prop := 0 ≤ j ∧ j ≤ 100 ∧ i.natAbs < 2 ^ 1000
theorem op_powL : OpR X (binaryOp .Pow) (rI CPowL fun i j => .int (i ^ j.toNat)) := opI fun i j _ _ _ _ _ hc q => by
  obtain ⟨h1, h2, h3⟩ := hc
  have b := intBits_le h3
  refine pow_int h1 ?_ q
  have b' : (Builtin.Int.intBits i : Int) ≤ 1000 := by exact_mod_cast b
  have b0 : (0 : Int) ≤ (Builtin.Int.intBits i : Int) := Int.natCast_nonneg _
  have := Int.mul_le_mul b' h2 h1 (by decide)
  exact Int.le_trans this (by decide)
def ipC (C : Int → Int → Prop) (f : Int → Int → Int) : TIp := fun x y H Q => ∃ i j, x = .int i ∧ y = .int j ∧ C i j ∧ Q (.int (f i j)) H
theorem ip_mul : PIp X .Mult (ipC CMul fun i j => i * j) := by
  intro pins s σ H x y v u Q I r1 r2 h
  obtain ⟨i, j, e1, e2, hc, q⟩ := h
  subst e1; subst e2
  obtain ⟨t, rfl⟩ := r1
  obtain ⟨t', rfl⟩ := r2
  exact imul_int ⟨.int _, H, I.tok _, ⟨_, rfl⟩, q⟩ hc.ok
theorem vals_take {vs : List V} {us : List Value} (h : Vals vs us) : ∀ n, Vals (vs.take n) (us.take n) := by
  induction h with
  | nil => intro n; rw [List.take_nil, List.take_nil]; exact .nil
  | cons r _ ih =>
    intro n
    cases n with
    | zero => exact .nil
    | succ n => exact .cons r (ih n)
/-- f(k = v, ..) -/
theorem pe_callN0 {CX : CXT} {k : Nat} {f : Addr} {fd : FuncData} {ps ks : List Str} {sp : Sp} {E : XK} {x : Str} {p pos : Pos} {kws : List Keyword} {tk : TA} {g : List Value → List Value → List Value} {gV : List V → List V → List V}
    (F : FnOk X.prog X.w X.K X.mg X.base CX k f fd ps sp) (hr : Room k X.A) (hg : Gl X x) (hm : X.mg x = some (.ref f)) (hk : PySem.W.keepIn X.K (.ref f) = true) (hb : KBn X.K fd ps 0 ks g gV) (hx : Passes CX X E) (hkw : PK X kws tk)
    (hall : (backToKw pos (keywordEach kws X.env)).all (·.1.isSome) = true := by rfl) (hks : (backToKw pos (keywordEach kws X.env)).filterMap (·.1) = ks := by rfl) (hdb : (x == ("__debug__" : Str)) = false := by decide)
    (hpl : ((backTo pos (starEach [] X.env)).any (·.1) || (backToKw pos (keywordEach kws X.env)).any (·.1.isNone)) = false := by rfl) :
    PE X (.Call (.Name x p) [] kws pos) (tCallN 0 ks.length sp gV E tNil tk) := by
  refine ⟨fun pins s σ H Q I h => ?_⟩
  refine wpAny_Call_Name_kw (ld_glob I hg hm ?_ hdb)
  refine PySem.W.callWith_KW0 (h₀ := X.base) I.ok.mod.kin hk hall ?_ hpl
  refine thn (hkw.run pos pins s σ H _ I h) fun ws s2 ⟨zs, H2, I2, rz, l1, l2, q2⟩ => ⟨I2.kIn, ?_⟩
  rw [hks]
  exact run_fnN (us := []) (vs := []) F hr hb hx I2 .nil rz rfl l2 q2
end

/-! ### the bag of draws -/
structure Bag (n : Nat) (H : Hp) (p : Addr) : Prop where
  ex : ∃ a b c : Int, H p = some (.lst [.int a, .int b, .int c]) ∧ 0 ≤ a ∧ 0 ≤ b ∧ b < 2 ^ 64 ∧ 0 ≤ c ∧ c ≤ n
theorem Bag.le {n m : Nat} {H : Hp} {p : Addr} (b : Bag n H p) (h : n ≤ m) : Bag m H p := by
  obtain ⟨a, x, c, h1, h2, h3, h4, h5, h6⟩ := b.ex
  exact ⟨a, x, c, h1, h2, h3, h4, h5, by omega⟩
theorem Bag.same {n : Nat} {H H' : Hp} {p : Addr} (b : Bag n H p) (s : Same H H') : Bag n H' p := by
  obtain ⟨a, x, c, h1, h⟩ := b.ex
  exact ⟨a, x, c, s _ _ h1, h⟩
theorem Bag.keep {n : Nat} {H H' : Hp} {p q : Addr} (b : Bag n H p) (s : Kp q H H') (ne : p ≠ q) : Bag n H' p := by
  obtain ⟨a, x, c, h1, h⟩ := b.ex
  exact ⟨a, x, c, s _ _ h1 ne, h⟩
theorem Bag.ne {n : Nat} {H : Hp} {p q : Addr} (b : Bag n H p) (h : H q = none) : p ≠ q := by
  obtain ⟨a, x, c, h1, _⟩ := b.ex
  exact ne_some h1 h
theorem Bag.some {n : Nat} {H : Hp} {p : Addr} (b : Bag n H p) : ∃ o, H p = some o := by
  obtain ⟨a, x, c, h1, _⟩ := b.ex
  exact ⟨_, h1⟩
/-- the five numbers of a rule within their bounds -/
structure Five (f m t b s : Int) : Prop where
  f1 : 1 ≤ f
  f2 : f ≤ 1000
  m1 : 1 ≤ m
  m2 : m ≤ 10
  t1 : 1 ≤ t
  t2 : t ≤ 1000000
  b1 : 0 ≤ b
  b2 : b ≤ 20
  s1 : 0 ≤ s
  s2 : s ≤ 1000000
end UW
namespace UW
open PySem L2
/-- for i, x in enumerate(xs), both names plain -/
theorem for_enum2 {K : PySem.W.Frag} {a : Addr} {xs : List V} {i j : Nat} {tb : TS} {D : Ends} {σ : St} {H : Hp} (Pv : Nat → St → Hp → Prop) (h0 : Pv 0 σ H) (hl : ∀ k σ H, k ≤ xs.length → Pv k σ H → SqL K H a xs)
    (hs : ∀ k x σ H H2, xs[k]? = some x → Pv k σ H → Same H H2 → tb { D with nx := Pv (k + 1), ct := Pv (k + 1), bk := D.nx } ((σ.set i (some (.int (k : Nat)))).set j (some x)) H2) (hd : ∀ σ H, Pv xs.length σ H → D.nx σ H) :
    ∃ W : Nat → Nat → St → Hp → Prop, (∃ m, W 0 m σ H) ∧ ∀ k m σ H, W k m σ H →
      ((Ite K a).stop k H ∧ D.nx σ H) ∨ ((Ite K a).go k H ∧ ∃ N : St → Hp → Prop, (∀ σ' H', N σ' H' → ∃ m', m' < m ∧ W (k + 1) m' σ' H') ∧ ∀ x H', (Ite K a).yld k H x H' → gTup K 2 (gCons (gName i) (gCons (gName j) gNil)) x σ H' fun σ2 H2 => tb { D with nx := N, ct := N, bk := D.nx } σ2 H2) := by
  refine for_it walk_enum Pv h0 hl (fun k v σ H H' hk p y => ?_) hd
  obtain ⟨T, x, y, rfl, nT, rfl, e1, e2⟩ := y
  cases e1
  exact ⟨T, _, rfl, .inl (.inl upd_same), rfl, _, _, rfl, _, _, rfl, rfl, hs k y σ H _ e2 p (same_upd nT)⟩
/-- one item of a short list by its place -/
theorem at0 {α : Type} {a : α} {r : List α} : atI (a :: r) 0 = some a := atI_nat (j := 0) rfl
theorem at1 {α : Type} {a b : α} {r : List α} : atI (a :: b :: r) 1 = some b := atI_nat (j := 1) rfl
theorem at2 {α : Type} {a b c : α} {r : List α} : atI (a :: b :: c :: r) 2 = some c := atI_nat (j := 2) rfl
theorem at3 {α : Type} {a b c d : α} {r : List α} : atI (a :: b :: c :: d :: r) 3 = some d := atI_nat (j := 3) rfl
theorem at4 {α : Type} {a b c d e : α} {r : List α} : atI (a :: b :: c :: d :: e :: r) 4 = some e := atI_nat (j := 4) rfl
end UW
namespace UW
open PySem L2
theorem bag_made {H : Hp} {p : Addr} {c k : Int} {b : Bool} (h0 : 0 ≤ k) (h1 : k ≤ 1000) : Bag 0 (upd H p (.lst [.int ((if c < 0 then -c else c) * (if b = true then 1 else 0)), .int (c % (10 ^ (18 : Int).toNat + 9) + 1299709 * k), .int 0])) p := by
  refine ⟨_, _, _, upd_same, ?_, ?_, ?_, Int.le_refl _, Int.le_refl _⟩
  · have : (0 : Int) ≤ if c < 0 then -c else c := by split <;> omega
    cases b
    · simp
    · simpa using this
  · have e : (10 ^ (18 : Int).toNat + 9 : Int) = 1000000000000000009 := by decide
    rw [e]
    omega
  · have e : (10 ^ (18 : Int).toNat + 9 : Int) = 1000000000000000009 := by decide
    rw [e]
    omega
end UW
namespace UW
open PySem L2
theorem cmul_b {i : Int} {b : Bool} : CMul i (if b = true then 1 else 0) := by
  cases b
  · exact .inr ⟨by decide, by decide⟩
  · exact .inr ⟨by decide, by decide⟩
theorem pow10 {j : Int} (h0 : 0 ≤ j := by decide) (h1 : j ≤ 100 := by decide) : CPowL 10 j :=
  ⟨h0, h1, Nat.lt_of_lt_of_le (show (10 : Int).natAbs < 2 ^ 4 by decide) (Nat.pow_le_pow_right (by decide) (by decide))⟩
/-- the primes of a draw -/
abbrev primes : List V := [.int 2147483647, .int 2147483629, .int 2147483587, .int 2147483579, .int 2147483563, .int 2147483549, .int 2147483543, .int 2147483497]
theorem prime_at (c : Int) : ∃ p : Int, atI primes (c % 8) = some (.int p) ∧ 0 < p ∧ p < 2147483648 := by
  have h0 : 0 ≤ c % 8 := Int.emod_nonneg _ (by decide)
  have h1 : c % 8 < 8 := Int.emod_lt_of_pos _ (by decide)
  generalize c % 8 = d at h0 h1
  obtain ⟨k, rfl⟩ := Int.eq_ofNat_of_zero_le h0
  have hk : k < 8 := by omega
  match k, hk with
  | 0, _ => exact ⟨_, atI_nat (j := 0) rfl, by decide, by decide⟩
  | 1, _ => exact ⟨_, atI_nat (j := 1) rfl, by decide, by decide⟩
  | 2, _ => exact ⟨_, atI_nat (j := 2) rfl, by decide, by decide⟩
  | 3, _ => exact ⟨_, atI_nat (j := 3) rfl, by decide, by decide⟩
  | 4, _ => exact ⟨_, atI_nat (j := 4) rfl, by decide, by decide⟩
  | 5, _ => exact ⟨_, atI_nat (j := 5) rfl, by decide, by decide⟩
  | 6, _ => exact ⟨_, atI_nat (j := 6) rfl, by decide, by decide⟩
  | 7, _ => exact ⟨_, atI_nat (j := 7) rfl, by decide, by decide⟩
theorem basis_small {b c : Int} (h0 : 0 ≤ b) (h1 : b < 2 ^ 64) (h2 : 0 ≤ c) (h3 : c < 2000000000) : (b * (2 * c + 1) + 7919 * c * c + 29).natAbs < 2 ^ 1000 := by
  have e1 : b * (2 * c + 1) ≤ 2 ^ 64 * (2 * 2000000000 + 1) := Int.mul_le_mul (by omega) (by omega) (by omega) (by decide)
  have e2 : 7919 * c * c ≤ 7919 * 2000000000 * 2000000000 := Int.mul_le_mul (by omega) (by omega) h2 (by decide)
  have e3 : 0 ≤ b * (2 * c + 1) := Int.mul_nonneg h0 (by omega)
  have e4 : 0 ≤ 7919 * c * c := Int.mul_nonneg (by omega) h2
  refine Nat.lt_of_lt_of_le (m := 2 ^ 200) ?_ (Nat.pow_le_pow_right (by decide) (by decide))
  have e5 : b * (2 * c + 1) + 7919 * c * c + 29 < 2 ^ 200 := by
    have : (2 ^ 64 * (2 * 2000000000 + 1) + 7919 * 2000000000 * 2000000000 + 29 : Int) < 2 ^ 200 := by decide
    omega
  omega
end UW
namespace UW
open PySem L2
/-- a draw: a number from 0 to below a size; the bag alone has changed -/
@[irreducible] def spTake : Sp := fun vs H Q _ => ∃ (p : Addr) (z : Int) (n : Nat), vs = [.ref p, .int z] ∧ Bag n H p ∧ 0 < z ∧ z < 1073741824 ∧ n < 1000000000 ∧
  ∀ (r : Int) H', 0 ≤ r → r < z → Bag (n + 1) H' p → Kp p H H' → Q (.int r) H'
theorem take_of {H : Hp} {p : Addr} {n : Nat} {z : Int} {Q : VK} {E : XK} (B : Bag n H p) (h0 : 0 < z) (h1 : z < 1073741824) (hn : n < 1000000000)
    (q : ∀ (r : Int) H', 0 ≤ r → r < z → Bag (n + 1) H' p → Kp p H H' → Q (.int r) H') : spTake [.ref p, .int z] H Q E := by
  unfold spTake
  exact ⟨p, z, n, rfl, B, h0, h1, hn, q⟩
theorem take_un {vs : List V} {H : Hp} {Q : VK} {E : XK} (h : spTake vs H Q E) : ∃ (p : Addr) (z : Int) (n : Nat), vs = [.ref p, .int z] ∧ Bag n H p ∧ 0 < z ∧ z < 1073741824 ∧ n < 1000000000 ∧
    ∀ (r : Int) H', 0 ≤ r → r < z → Bag (n + 1) H' p → Kp p H H' → Q (.int r) H' := by
  unfold spTake at h
  exact h
/-- take(bag, [z1, ..][take(bag, k)]), the menu just laid at l -/
theorem take_menu {K : PySem.W.Frag} {H : Hp} {p l : Addr} {n : Nat} {zs : List Int} {k : Int} {Q : VK} {E E' : XK} (B : Bag n H p) (hn : n < 900000000) (hl : H l = none) (hk : k = (zs.length : Int)) (hz0 : 0 < zs.length) (hz1 : zs.length < 1000) (hz : ∀ z ∈ zs, 0 < z ∧ z < 1073741824)
    (q : ∀ (z r : Int) H', z ∈ zs → 0 ≤ r → r < z → Bag (n + 2) H' p → Kp p H H' → Q (.int r) H') :
    spTake [.ref p, .int k] (upd H l (.lst (zs.map V.int))) (fun v H2 => rIxL K (.ref l) v H2 fun w H3 => spTake [.ref p, w] H3 Q E) E' := by
  subst hk
  generalize hE : upd H l _ = H1
  have k1 := new_at hE
  have s1 := new_same hE hl
  have npl := B.ne hl
  refine take_of (B.same s1) (by omega) (by omega) (by omega) fun r H2 r0 r1 B2 kp2 => ?_
  obtain ⟨j, rfl⟩ := Int.eq_ofNat_of_zero_le r0
  have hj : j < zs.length := by omega
  have hm : zs[j] ∈ zs := List.getElem_mem hj
  refine ⟨l, _, _, .int zs[j], rfl, rfl, SqL.of (kp2 _ _ k1 npl.symm), atI_nat (by rw [List.getElem?_map, List.getElem?_eq_getElem hj]; rfl), ?_⟩
  refine take_of B2 (hz _ hm).1 (hz _ hm).2 (by omega) fun r2 H3 q0 q1 B3 kp3 => ?_
  exact q _ r2 H3 hm q0 q1 B3 ((Kp.of s1).trans (kp2.trans kp3))
end UW
namespace UW
open PySem L2
section
variable {X : Cx}
/-- a statement, then the rest, with a word between -/
def tMid (t u : TS) : TS := fun D σ H => ∃ M : L2.St → Hp → Prop, t { D with nx := M } σ H ∧ ∀ σ' H', M σ' H' → u D σ' H'
theorem pss_mid {st : Stmt} {rest : List Stmt} {t u : TS} (h1 : PS X st t) (h2 : PSs X rest u) : PSs X (st :: rest) (tMid t u) := by
  refine ⟨fun pins s σ H D I h => ?_⟩
  obtain ⟨M, hm, hu⟩ := h
  refine wpAny_execs_cons (thn (h1.run pins s σ H { D with nx := M } I hm) fun f s1 q => ?_)
  cases f with
  | next =>
    obtain ⟨σ', H', I', q⟩ := q
    exact h2.run pins s1 σ' H' D I' (hu σ' H' q)
  | ret v => exact q
  | brk => exact q
  | cont => exact q
/-- an expression with a word behind it -/
def tMidE (t : TE) : TE := fun σ H Q => ∃ M : VK, t σ H M ∧ ∀ v H', M v H' → Q v H'
theorem pe_mid {e : Expr} {t : TE} (h : PE X e t) : PE X e (tMidE t) := by
  refine ⟨fun pins s σ H Q I ⟨M, hm, hq⟩ => ?_⟩
  exact thn (h.run pins s σ H M I hm) fun u s1 ⟨v, H', I', r, q⟩ => ⟨v, H', I', r, hq v H' q⟩
def tMidT (t : TT) : TT := fun σ H Q => ∃ M : Bool → Hp → Prop, t σ H M ∧ ∀ b H', M b H' → Q b H'
theorem pt_mid {e : Expr} {t : TT} (h : PT X e t) : PT X e (tMidT t) := by
  refine ⟨fun pins s σ H Q I ⟨M, hm, hq⟩ => ?_⟩
  exact thn (h.run pins s σ H M I hm) fun b s1 ⟨H', I', q⟩ => ⟨H', I', hq b H' q⟩
end
end UW
namespace UW
theorem iteY {c A B : Prop} [Decidable c] (hc : c) (h : A) : if c then A else B := by
  rw [if_pos hc]
  exact h
theorem iteN {c A B : Prop} [Decidable c] (hc : ¬ c) (h : B) : if c then A else B := by
  rw [if_neg hc]
  exact h
theorem iteYd {c A B : Prop} [Decidable c] (hc : c) (h : A) : if decide c = true then A else B := iteY (decide_eq_true hc) h
theorem iteNd {c A B : Prop} [Decidable c] (hc : ¬ c) (h : B) : if decide c = true then A else B := iteN (fun z => hc (of_decide_eq_true z)) h
end UW
namespace UW
open PySem L2
/-- None, truths, ints -/
def flatN : V → Bool
  | .non => true
  | .bl _ => true
  | .int _ => true
  | _ => false
def flatD : V → PyData
  | .non => .none
  | .bl b => .bool b
  | .int i => .int i
  | _ => .none
theorem dp_flat {K : PySem.W.Frag} {H : Hp} {v : V} (h : flatN v = true) : Dp K H v (flatD v) := by
  cases v with
  | non => exact .non
  | bl b => exact .bl b
  | int i => exact .int i
  | _ => cases h
theorem dpAll_flat {K : PySem.W.Frag} {H : Hp} : ∀ {xs : List V}, (∀ v ∈ xs, flatN v = true) → DpAll K H xs (xs.map flatD)
  | [], _ => .nil
  | v :: vs, h => .cons (dp_flat (h v (List.mem_cons_self ..))) (dpAll_flat fun x hx => h x (List.mem_cons_of_mem _ hx))
theorem lay_flat (v : V) : PyData.canLay0 (flatD v) = true ∧ PyData.depth (flatD v) = 0 := by
  cases v <;> exact ⟨by simp only [flatD, PyData.canLay0], by simp only [flatD, PyData.depth]⟩
theorem layAll_flat : ∀ xs : List V, PyData.canLayAll0 (xs.map flatD) = true ∧ PyData.depthAll (xs.map flatD) = 0
  | [] => ⟨by simp only [List.map_nil, PyData.canLayAll0], by simp only [List.map_nil, PyData.depthAll]⟩
  | v :: vs => by
    obtain ⟨a, b⟩ := lay_flat v
    obtain ⟨c, d⟩ := layAll_flat vs
    rw [List.map_cons]
    exact ⟨by simp only [PyData.canLayAll0, a, c, Bool.and_self], by simp only [PyData.depthAll, b, d, Nat.max_self]⟩
theorem shaped_flat (xs : List V) : SeqAt.shaped (.list (xs.map flatD)) = true := by
  obtain ⟨c, d⟩ := layAll_flat xs
  unfold SeqAt.shaped
  simp only [PyData.canLay0, PyData.depth, c, d]
  decide
theorem neD_same {K : PySem.W.Frag} {H : Hp} {a b : Addr} {xs : List V} {Q : VK} (h1 : SqL K H a xs) (h2 : SqL K H b xs) (hf : ∀ v ∈ xs, flatN v = true) (q : Q (.bl false) H) : rNeD K (.ref a) (.ref b) H Q := by
  refine ⟨_, _, .lst h1 (dpAll_flat hf), .lst h2 (dpAll_flat hf), shaped_flat xs, shaped_flat xs, ?_⟩
  have e : PyData.eqv (.list (xs.map flatD)) (.list (xs.map flatD)) = true := SeqAt.eqv_refl _ (by simp only [PyData.canLay0]; exact (layAll_flat xs).1)
  rw [e]
  exact q
end UW
namespace UW
open PySem L2
theorem yes_of {σ : L2.St} {H : Hp} {Q : Bool → Hp → Prop} (h : Q true H) : tYes σ H Q := h
end UW
namespace UW
open PySem L2
/-- max(xs, default=d) of ints: some int -/
def rMaxD (K : PySem.W.Frag) : List V → List V → Hp → VK → Prop := fun vs zs H Q => ∃ (a : Addr) (ns : List Int) (d : Int), vs = [.ref a] ∧ zs = [.int d] ∧ SqL K H a (ns.map V.int) ∧ ∀ m : Int, Q (.int m) H
theorem ints_flatD (ns : List Int) : (ns.map V.int).map flatD = ns.map PyData.int := by
  rw [List.map_map]
  rfl
theorem cr_maxD {X : Cx} (hc : X.calm = true) (hu : X.A.units + 64 < cLine) : CallRK X (.builtin "max") [Str.ofString "default"] (rMaxD X.K) := by
  intro pins s σ H vs zs us ws Q I r rz h
  obtain ⟨a, ns, d, rfl, rfl, hs, q⟩ := h
  obtain ⟨its, rv, hl, _⟩ := I.list hs
  rw [Vals.ref1 r]
  obtain ⟨w1, rfl, t1, rfl⟩ := vals1 rz
  obtain ⟨as, hr⟩ := Dp.readsAll I ((ns.map V.int).map flatD) _ _ (dpAll_flat (K := X.K) (H := H) (xs := ns.map V.int) fun v hv => by
    obtain ⟨i, _, rfl⟩ := List.mem_map.mp hv
    rfl) rv
  have hd := (layAll_flat (ns.map V.int)).2
  refine PySem.W.max_list_default (I.ok.hd hc) hl.isList (vs := its.toArray) hr ⟨?_, ?_⟩ (by rw [hd]; omega) (fun _ h' tk hk => ⟨.int d, H, I.kept hk, ⟨_, rfl⟩, q d⟩) fun y ys i v h' tk bs _ hi _ hk => ?_
  · rw [ints_flatD]
    intro x hx y hy
    obtain ⟨i, _, rfl⟩ := List.mem_map.mp hx
    obtain ⟨j, _, rfl⟩ := List.mem_map.mp hy
    simp only [PySem.W.alike]
  · rw [ints_flatD]
    intro x hx
    obtain ⟨i, _, rfl⟩ := List.mem_map.mp hx
    intro z
    cases z
  · have hv : ∃ n t, v = .int n t := by
      have hi' : its[i]? = some v := by rw [← List.getElem?_toArray]; exact hi
      have : ∀ (vs : List V) (us : List Value) (i : Nat) (v : Value), Vals vs us → us[i]? = some v → ∃ x, vs[i]? = some x ∧ RelV x v := by
        intro vs us i v r
        induction r generalizing i with
        | nil => intro h; simp at h
        | cons r1 _ ih =>
          intro h
          cases i with
          | zero => cases h; exact ⟨_, rfl, r1⟩
          | succ i => exact ih i h
      obtain ⟨x, hx, rx⟩ := this _ _ _ _ rv hi'
      rw [List.getElem?_map] at hx
      cases e : ns[i]? with
      | none => rw [e] at hx; cases hx
      | some n =>
        rw [e] at hx
        cases hx
        obtain ⟨t, rfl⟩ := rx
        exact ⟨n, t, rfl⟩
    obtain ⟨n, t, rfl⟩ := hv
    exact ⟨.int n, H, I.kept hk, ⟨_, rfl⟩, q n⟩
end UW
namespace UW
open PySem L2
theorem ints_flat' (ts : List Int) : ∀ v ∈ ts.map V.int, flatN v = true := fun v hv => by
  obtain ⟨i, _, rfl⟩ := List.mem_map.mp hv
  rfl
theorem eqvAll_len : ∀ xs ys : List PyData, xs.length ≠ ys.length → PyData.eqvAll xs ys = false
  | [], [], h => absurd rfl h
  | [], _ :: _, _ => by simp only [PyData.eqvAll]
  | _ :: _, [], _ => by simp only [PyData.eqvAll]
  | x :: xs, y :: ys, h => by
    simp only [PyData.eqvAll]
    rw [eqvAll_len xs ys (fun e => h (by rw [List.length_cons, List.length_cons, e])), Bool.and_false]
theorem neD_diff {K : PySem.W.Frag} {H : Hp} {a b : Addr} {xs ys : List V} {Q : VK} (h1 : SqL K H a xs) (h2 : SqL K H b ys) (hf : ∀ v ∈ xs, flatN v = true) (hg : ∀ v ∈ ys, flatN v = true) (hl : xs.length ≠ ys.length) (q : Q (.bl true) H) : rNeD K (.ref a) (.ref b) H Q := by
  refine ⟨_, _, .lst h1 (dpAll_flat hf), .lst h2 (dpAll_flat hg), shaped_flat xs, shaped_flat ys, ?_⟩
  have e : PyData.eqv (.list (xs.map flatD)) (.list (ys.map flatD)) = false := by
    simp only [PyData.eqv]
    exact eqvAll_len _ _ (by rw [List.length_map, List.length_map]; exact hl)
  rw [e]
  exact q
theorem eqD_same {K : PySem.W.Frag} {H : Hp} {a b : Addr} {xs : List V} {Q : VK} (h1 : SqL K H a xs) (h2 : SqL K H b xs) (hf : ∀ v ∈ xs, flatN v = true) (q : Q (.bl true) H) : rEqD K (.ref a) (.ref b) H Q := by
  refine ⟨_, _, .lst h1 (dpAll_flat hf), .lst h2 (dpAll_flat hf), shaped_flat xs, shaped_flat xs, ?_⟩
  have e : PyData.eqv (.list (xs.map flatD)) (.list (xs.map flatD)) = true := SeqAt.eqv_refl _ (by simp only [PyData.canLay0]; exact (layAll_flat xs).1)
  rw [e]
  exact q
end UW
namespace UW
open PySem L2
theorem slA {K : PySem.W.Frag} {H : Hp} {a : Addr} {xs : List V} {lo hi : Option Int} {Q : VK} (h : SqT K H a xs) (q : ∀ p H', Same H H' → SqT K H' p (cutV xs lo hi) → Q (.ref p) H') : rSlA K (.ref a) lo hi H Q := by
  refine ⟨a, xs, rfl, h, fun e => ?_, fun _ p np => ?_⟩
  · refine q a H (Same.refl H) ?_
    have : cutV xs lo hi = xs := by
      unfold cutV
      rw [e.1, e.2, List.drop_zero, Nat.sub_zero, List.take_length]
    rw [this]
    exact h
  · exact q p _ (same_upd np) (SqT.of upd_same)
theorem catA {K : PySem.W.Frag} {H : Hp} {a b : Addr} {xs ys : List V} {Q : VK} (h : SqT K H a xs) (h2 : SqT K H b ys) (hl : xs.length + ys.length ≤ 1000) (q : ∀ p H', Same H H' → SqT K H' p (xs ++ ys) → Q (.ref p) H') : rCatA K (.ref a) (.ref b) H Q := by
  refine ⟨a, b, xs, ys, rfl, rfl, h, h2, Nat.le_trans hl (by decide), fun e => ?_, fun _ e => ?_, fun _ _ p np => ?_⟩
  · exact q b H (Same.refl H) (by rw [e]; exact h2)
  · exact q a H (Same.refl H) (by rw [e, List.append_nil]; exact h)
  · exact q p _ (same_upd np) (SqT.of upd_same)
end UW
namespace UW
open PySem L2
/-! ### names -/
/-- one to eight letters -/
def Nm (x : Str) : Prop := (∀ c ∈ x.cps.toList, 97 ≤ c ∧ c ≤ 122) ∧ 0 < x.length ∧ x.length ≤ 8
abbrev lettersS : Str := Str.ofString "abcdefghijklmnopqrstuvwxyz"
abbrev srettelS : Str := Str.ofString "zyxwvutsrqponmlkjihgfedcba"
theorem letters_tl : lettersS.cps.toList = (List.range 26).map (97 + ·) := by decide +kernel
theorem srettel_tl : srettelS.cps.toList = (List.range 26).map (122 - ·) := by decide +kernel
theorem letters_size : lettersS.cps.size = 26 := by decide +kernel
theorem srettel_size : srettelS.cps.size = 26 := by decide +kernel
theorem len_tl' (x : Str) : x.length = x.cps.toList.length := TL.len_tl x
theorem tl_app (x y : Str) : (x ++ y).cps.toList = x.cps.toList ++ y.cps.toList := TL.tl_append x y
theorem str_ext {x y : Str} (h : x.cps.toList = y.cps.toList) : x = y := TL.ext_tl h
theorem letter_at {r : Int} (h0 : 0 ≤ r) (h1 : r < 26) : ∃ c, atI lettersS.cps.toList r = some c ∧ 97 ≤ c ∧ c ≤ 122 := by
  obtain ⟨j, rfl⟩ := Int.eq_ofNat_of_zero_le h0
  have hj : j < 26 := by omega
  refine ⟨97 + j, atI_nat ?_, by omega, by omega⟩
  rw [letters_tl, List.getElem?_map, List.getElem?_range hj]
  rfl
theorem letters_get {i c : Nat} (h : lettersS.cps[i]? = some c) : i < 26 ∧ c = 97 + i := by
  rw [← Array.getElem?_toList, letters_tl, List.getElem?_map] at h
  by_cases hi : i < 26
  · rw [List.getElem?_range hi] at h
    exact ⟨hi, (Option.some.inj h).symm⟩
  · rw [List.getElem?_eq_none (by rw [List.length_range]; omega)] at h
    cases h
theorem srettel_get {i c : Nat} (h : srettelS.cps[i]? = some c) : i < 26 ∧ c = 122 - i := by
  rw [← Array.getElem?_toList, srettel_tl, List.getElem?_map] at h
  by_cases hi : i < 26
  · rw [List.getElem?_range hi] at h
    exact ⟨hi, (Option.some.inj h).symm⟩
  · rw [List.getElem?_eq_none (by rw [List.length_range]; omega)] at h
    cases h
theorem inV_str (w : Str) : ∀ xs : List Str, inV (.str w) (xs.map V.str) = decide (w ∈ xs)
  | [] => rfl
  | x :: xs => by
    have ih := inV_str w xs
    unfold inV at ih ⊢
    rw [List.map_cons, List.any_cons, ih]
    show (x == w || decide (w ∈ xs)) = decide (w ∈ x :: xs)
    by_cases h : x = w
    · subst h
      rw [beq_self_eq_true, Bool.true_or, decide_eq_true (List.mem_cons_self ..)]
    · rw [show (x == w) = false from beq_eq_false_iff_ne.mpr h, Bool.false_or]
      exact decide_eq_decide.mpr ⟨fun z => List.mem_cons_of_mem _ z, fun z => by
        rcases List.mem_cons.mp z with z | z
        · exact absurd z.symm h
        · exact z⟩
theorem strs_flat (xs : List Str) : (xs.map V.str).all flatV = true := by
  rw [List.all_eq_true]
  intro v hv
  obtain ⟨x, _, rfl⟩ := List.mem_map.mp hv
  rfl
theorem nodup_le {α : Type} [DecidableEq α] : ∀ (cs ds : List α), cs.Nodup → (∀ c ∈ cs, c ∈ ds) → cs.length ≤ ds.length
  | [], _, _, _ => Nat.zero_le _
  | c :: cs, ds, hn, h => by
    obtain ⟨h1, h2⟩ := List.nodup_cons.mp hn
    have hm := h c (List.mem_cons_self ..)
    have ih := nodup_le cs (ds.erase c) h2 fun x hx => by
      have hne : x ≠ c := fun e => h1 (e ▸ hx)
      exact (List.mem_erase_of_ne hne).mpr (h x (List.mem_cons_of_mem _ hx))
    rw [List.length_erase_of_mem hm] at ih
    have := List.length_pos_of_mem hm
    rw [List.length_cons]
    omega
theorem free_in {α : Type} [DecidableEq α] {cs ds : List α} (hn : cs.Nodup) (h : ds.length < cs.length) : ∃ c ∈ cs, c ∉ ds := by
  by_cases q : ∃ c ∈ cs, c ∉ ds
  · exact q
  · have := nodup_le cs ds hn fun c hc => by
      by_cases hd : c ∈ ds
      · exact hd
      · exact absurd ⟨c, hc, hd⟩ q
    omega
/-- the text without its first sign -/
abbrev tailS (w : Str) : Str := cutS w (some 1) none
theorem tailS_tl (w : Str) : (tailS w).cps.toList = w.cps.toList.drop 1 := by
  show (List.take _ _ : List Nat) = _
  rw [show HT.sIx w.length 0 (some 1) = min 1 w.length from HT.sIx_nat w.length 0 1, HT.sIx_none]
  have hl := len_tl' w
  rw [hl]
  by_cases h : 1 ≤ w.cps.toList.length
  · rw [Nat.min_eq_left h, List.take_of_length_le (by rw [List.length_drop]; exact Nat.le_refl _)]
  · rw [Nat.min_eq_right (by omega), Nat.sub_self, List.take_zero, List.drop_of_length_le (by omega)]
theorem sign_app_tl (c : Nat) (x : Str) : ((⟨#[c]⟩ : Str) ++ x).cps.toList = c :: x.cps.toList := by
  rw [tl_app]
  rfl
/-- the 26 texts with another first letter -/
def cands (x : Str) : List Str := (List.range 26).map fun i => (⟨#[97 + i]⟩ : Str) ++ x
theorem cands_nodup (x : Str) : (cands x).Nodup := by
  unfold cands
  rw [List.nodup_iff_pairwise_ne, List.pairwise_map]
  refine List.Pairwise.imp ?_ List.nodup_range
  intro i j hij e
  have := congrArg (fun z : Str => z.cps.toList) e
  rw [show ((⟨#[97 + i]⟩ : Str) ++ x).cps.toList = (97 + i) :: x.cps.toList from sign_app_tl _ _, show ((⟨#[97 + j]⟩ : Str) ++ x).cps.toList = (97 + j) :: x.cps.toList from sign_app_tl _ _] at this
  injection this with h1 _
  omega
theorem cand_nm {w : Str} (h : Nm w) {i : Nat} (hi : i < 26) : Nm ((⟨#[97 + i]⟩ : Str) ++ tailS w) := by
  obtain ⟨h1, h2, h3⟩ := h
  have e := sign_app_tl (97 + i) (tailS w)
  have hl : ((⟨#[97 + i]⟩ : Str) ++ tailS w).length = w.length := by
    rw [len_tl', e, tailS_tl, List.length_cons, List.length_drop, ← len_tl']
    omega
  refine ⟨fun c hc => ?_, by omega, by omega⟩
  rw [e, tailS_tl] at hc
  rcases List.mem_cons.mp hc with rfl | hc
  · omega
  · exact h1 c (List.mem_of_mem_drop hc)
theorem join_one {ys : List Str} (h : ∀ y ∈ ys, ∃ c, y = ⟨#[c]⟩ ∧ 97 ≤ c ∧ c ≤ 122) (h0 : 0 < ys.length) (h8 : ys.length ≤ 8) : Nm (Txt.join (Str.ofString "") ys) := by
  have key : ∀ ys : List Str, (∀ y ∈ ys, ∃ c, y = ⟨#[c]⟩ ∧ 97 ≤ c ∧ c ≤ 122) → (Str.join (Str.ofString "") ys).cps.toList.length = ys.length ∧ ∀ c ∈ (Str.join (Str.ofString "") ys).cps.toList, 97 ≤ c ∧ c ≤ 122 := by
    intro ys
    induction ys with
    | nil => exact fun _ => ⟨rfl, fun c hc => by cases hc⟩
    | cons y ys ih =>
      intro h
      obtain ⟨c, rfl, h1, h2⟩ := h y (List.mem_cons_self ..)
      cases ys with
      | nil =>
        refine ⟨rfl, fun d hd => ?_⟩
        have hd' : d ∈ [c] := hd
        rw [List.mem_singleton.mp hd']
        exact ⟨h1, h2⟩
      | cons z zs =>
        obtain ⟨i1, i2⟩ := ih fun y hy => h y (List.mem_cons_of_mem _ hy)
        have e : (Str.join (Str.ofString "") (⟨#[c]⟩ :: z :: zs)).cps.toList = c :: (Str.join (Str.ofString "") (z :: zs)).cps.toList := by
          show ((⟨#[c]⟩ : Str) ++ Str.ofString "" ++ Str.join (Str.ofString "") (z :: zs)).cps.toList = _
          rw [tl_app, tl_app]
          rfl
        rw [e]
        refine ⟨by rw [List.length_cons, i1]; rfl, fun d hd => ?_⟩
        rcases List.mem_cons.mp hd with rfl | hd
        · exact ⟨h1, h2⟩
        · exact i2 d hd
  obtain ⟨k1, k2⟩ := key ys h
  rw [TL.join_eq]
  exact ⟨k2, by rw [len_tl', k1]; exact h0, by rw [len_tl', k1]; exact h8⟩
end UW
namespace UW
theorem range_map_succ' {α : Type} (g : Nat → α) (n : Nat) : (List.range (n + 1)).map g = (List.range n).map g ++ [g n] := by
  rw [List.range_succ, List.map_append]
  rfl
end UW
namespace UW
open PySem L2
/-! ### lists and tuples of texts compared -/
theorem Nm.ok {x : Str} (h : Nm x) : PyData.strOk x = true := by
  unfold PyData.strOk
  rw [Array.all_eq_true']
  intro c hc
  have := (h.1 c (Array.mem_toList_iff.mpr hc)).2
  exact decide_eq_true (by omega)
theorem dpAll_strs {K : PySem.W.Frag} {H : Hp} : ∀ xs : List Str, DpAll K H (xs.map V.str) (xs.map PyData.str)
  | [] => .nil
  | x :: xs => .cons (.str x) (dpAll_strs xs)
theorem layAll_strs : ∀ {xs : List Str}, (∀ x ∈ xs, PyData.strOk x = true) → PyData.canLayAll0 (xs.map PyData.str) = true ∧ PyData.depthAll (xs.map PyData.str) = 0
  | [], _ => ⟨by simp only [List.map_nil, PyData.canLayAll0], by simp only [List.map_nil, PyData.depthAll]⟩
  | x :: xs, h => by
    obtain ⟨c, d⟩ := layAll_strs fun y hy => h y (List.mem_cons_of_mem _ hy)
    rw [List.map_cons]
    exact ⟨by simp only [PyData.canLayAll0, PyData.canLay0, h x (List.mem_cons_self ..), c, Bool.and_self], by simp only [PyData.depthAll, PyData.depth, d, Nat.max_self]⟩
theorem shaped_strs {xs : List Str} (h : ∀ x ∈ xs, PyData.strOk x = true) : SeqAt.shaped (.list (xs.map PyData.str)) = true := by
  obtain ⟨c, d⟩ := layAll_strs h
  unfold SeqAt.shaped
  simp only [PyData.canLay0, PyData.depth, c, d]
  decide
theorem eqvAll_strs : ∀ xs ys : List Str, PyData.eqvAll (xs.map PyData.str) (ys.map PyData.str) = decide (xs = ys)
  | [], [] => by simp only [List.map_nil, PyData.eqvAll]; rfl
  | [], y :: ys => by simp only [List.map_nil, List.map_cons, PyData.eqvAll]; rfl
  | x :: xs, [] => by simp only [List.map_nil, List.map_cons, PyData.eqvAll]; rfl
  | x :: xs, y :: ys => by
    simp only [List.map_cons, PyData.eqvAll, PyData.eqv]
    rw [eqvAll_strs xs ys]
    by_cases h : x = y
    · subst h
      rw [beq_self_eq_true, Bool.true_and]
      exact decide_eq_decide.mpr ⟨fun e => by rw [e], fun e => by injection e⟩
    · rw [show (x == y) = false from beq_eq_false_iff_ne.mpr h, Bool.false_and]
      exact (decide_eq_false fun e => h (by injection e)).symm
/-- xs != ys of texts -/
theorem neD_strs {K : PySem.W.Frag} {H : Hp} {a b : Addr} {xs ys : List Str} {Q : VK} (h1 : SqL K H a (xs.map V.str)) (h2 : SqL K H b (ys.map V.str)) (hx : ∀ x ∈ xs, PyData.strOk x = true) (hy : ∀ y ∈ ys, PyData.strOk y = true) (q : Q (.bl (!decide (xs = ys))) H) : rNeD K (.ref a) (.ref b) H Q := by
  refine ⟨_, _, .lst h1 (dpAll_strs xs), .lst h2 (dpAll_strs ys), shaped_strs hx, shaped_strs hy, ?_⟩
  have e : PyData.eqv (.list (xs.map PyData.str)) (.list (ys.map PyData.str)) = decide (xs = ys) := by
    simp only [PyData.eqv]
    exact eqvAll_strs xs ys
  rw [e]
  exact q
theorem seq_ix {r : Int} {n : Nat} (h0 : 0 ≤ r) (h1 : r < n) : seqIndex? r n = some r.toNat := (ixN_seq (by
  unfold ixN
  rw [if_pos h0, if_pos h1])).1
end UW
namespace UW
theorem perm_pick {α : Type} : ∀ (ls : List α) (k : Nat) (h : k < ls.length), (ls[k] :: ls.eraseIdx k).Perm ls
  | [], _, h => absurd h (Nat.not_lt_zero _)
  | x :: xs, 0, _ => List.Perm.refl _
  | x :: xs, k + 1, h => by
    have hk : k < xs.length := by simpa using h
    have ih := perm_pick xs k hk
    show (xs[k] :: x :: xs.eraseIdx k).Perm (x :: xs)
    exact (List.Perm.swap _ _ _).trans (List.Perm.cons x ih)
theorem map_pick {α β : Type} (f : α → β) : ∀ (ls : List α) (k : Nat), (ls.map f).eraseIdx k = (ls.eraseIdx k).map f
  | [], _ => rfl
  | x :: xs, 0 => rfl
  | x :: xs, k + 1 => by
    show f x :: (xs.map f).eraseIdx k = f x :: (xs.eraseIdx k).map f
    rw [map_pick f xs k]
end UW
namespace UW
open PySem L2
theorem cutV_to {xs : List V} {n : Nat} : cutV xs none (some (n : Int)) = xs.take n := by
  unfold cutV
  rw [show HT.sIx xs.length xs.length (some (n : Int)) = min n xs.length from HT.sIx_nat xs.length xs.length n, HT.sIx_none]
  show (xs.drop 0).take (min n xs.length - 0) = xs.take n
  rw [List.drop_zero, Nat.sub_zero]
  by_cases h : n ≤ xs.length
  · rw [Nat.min_eq_left h]
  · rw [Nat.min_eq_right (by omega), List.take_length, List.take_of_length_le (by omega)]
theorem menu_ix {zs : List Int} {r : Int} (h0 : 0 ≤ r) (h1 : r < zs.length) : ∃ z, z ∈ zs ∧ atI (zs.map V.int) r = some (.int z) := by
  obtain ⟨j, rfl⟩ := Int.eq_ofNat_of_zero_le h0
  have hj : j < zs.length := by omega
  exact ⟨zs[j], List.getElem_mem hj, atI_nat (by rw [List.getElem?_map, List.getElem?_eq_getElem hj]; rfl)⟩
theorem menu_str {zs : List Str} {r : Int} (h0 : 0 ≤ r) (h1 : r < zs.length) : ∃ z, z ∈ zs ∧ atI (zs.map V.str) r = some (.str z) := by
  obtain ⟨j, rfl⟩ := Int.eq_ofNat_of_zero_le h0
  have hj : j < zs.length := by omega
  exact ⟨zs[j], List.getElem_mem hj, atI_nat (by rw [List.getElem?_map, List.getElem?_eq_getElem hj]; rfl)⟩
/-! ### facts of units -/
/-- what a unit is made of -/
structure UF where
  kind : Str
  needs : List Str
  wants : List Str
  bars : List Str
  after : List Str
  opens : Option Str
  five : Option (Int × Int × Int × Int × Int)
deriving DecidableEq
def UF.named (u : UF) : List Str := u.needs ++ u.wants ++ u.bars ++ u.after ++ u.opens.toList
def optV : Option Str → V
  | none => .non
  | some x => .str x
def FiveAt (H : Hp) : V → Option (Int × Int × Int × Int × Int) → Prop
  | v, none => v = .non
  | v, some (f, m, t, b, s) => ∃ p, v = .ref p ∧ H p = some (.tup [.int f, .int m, .int t, .int b, .int s]) ∧ Five f m t b s
/-- the seven facts stand in a tuple -/
def FactAt (H : Hp) (v : V) (u : UF) : Prop := ∃ (t n w b a : Addr) (g : V), v = .ref t ∧ H t = some (.tup [.str u.kind, .ref n, .ref w, .ref b, .ref a, optV u.opens, g]) ∧
  H n = some (.tup (u.needs.map V.str)) ∧ H w = some (.tup (u.wants.map V.str)) ∧ H b = some (.tup (u.bars.map V.str)) ∧ H a = some (.tup (u.after.map V.str)) ∧ FiveAt H g u.five
def NotTup (H : Hp) (q : Addr) : Prop := ∀ xs, H q ≠ some (.tup xs)
theorem NotTup.ne {H : Hp} {q c : Addr} {xs : List V} (h : NotTup H q) (e : H c = some (.tup xs)) : c ≠ q := fun z => h xs (z ▸ e)
theorem NotTup.lst {H : Hp} {q : Addr} {xs : List V} (h : H q = some (.lst xs)) : NotTup H q := fun ys e => by rw [h] at e; cases e
theorem NotTup.dK {H : Hp} {q : Addr} {kvs : List (Key × V)} (h : H q = some (.dK kvs)) : NotTup H q := fun ys e => by rw [h] at e; cases e
theorem NotTup.none {H : Hp} {q : Addr} (h : H q = Option.none) : NotTup H q := fun ys e => by rw [h] at e; cases e
theorem Bag.notTup {n : Nat} {H : Hp} {p : Addr} (b : Bag n H p) : NotTup H p := by
  obtain ⟨_, _, _, h, _⟩ := b.ex
  exact .lst h
theorem FiveAt.keep {H H' : Hp} {q : Addr} {v : V} {o : Option (Int × Int × Int × Int × Int)} (h : FiveAt H v o) (k : Kp q H H') (n : NotTup H q) : FiveAt H' v o := by
  cases o with
  | none => exact h
  | some o =>
    obtain ⟨f, m, t, b, s⟩ := o
    obtain ⟨p, e, hp, F⟩ := h
    exact ⟨p, e, k _ _ hp (n.ne hp), F⟩
theorem FactAt.keep {H H' : Hp} {q : Addr} {v : V} {u : UF} (h : FactAt H v u) (k : Kp q H H') (n : NotTup H q) : FactAt H' v u := by
  obtain ⟨t, a1, a2, a3, a4, g, e, h0, h1, h2, h3, h4, h5⟩ := h
  exact ⟨t, a1, a2, a3, a4, g, e, k _ _ h0 (n.ne h0), k _ _ h1 (n.ne h1), k _ _ h2 (n.ne h2), k _ _ h3 (n.ne h3), k _ _ h4 (n.ne h4), h5.keep k n⟩
theorem FiveAt.same {H H' : Hp} {v : V} {o : Option (Int × Int × Int × Int × Int)} (h : FiveAt H v o) (s : Same H H') : FiveAt H' v o := by
  cases o with
  | none => exact h
  | some o =>
    obtain ⟨f, m, t, b, s'⟩ := o
    obtain ⟨p, e, hp, F⟩ := h
    exact ⟨p, e, s _ _ hp, F⟩
theorem FactAt.same {H H' : Hp} {v : V} {u : UF} (h : FactAt H v u) (s : Same H H') : FactAt H' v u := by
  obtain ⟨t, a1, a2, a3, a4, g, e, h0, h1, h2, h3, h4, h5⟩ := h
  exact ⟨t, a1, a2, a3, a4, g, e, s _ _ h0, s _ _ h1, s _ _ h2, s _ _ h3, s _ _ h4, h5.same s⟩
/-- a dict of facts by names -/
inductive FactsAt (H : Hp) : List (Key × V) → List (Str × UF) → Prop
  | nil : FactsAt H [] []
  | snoc {kvs : List (Key × V)} {us : List (Str × UF)} {w : Str} {v : V} {u : UF} (h : FactsAt H kvs us) (e : FactAt H v u) : FactsAt H (kvs ++ [(Sum.inr w, v)]) (us ++ [(w, u)])
theorem FactsAt.keep {H H' : Hp} {q : Addr} {kvs : List (Key × V)} {us : List (Str × UF)} (h : FactsAt H kvs us) (k : Kp q H H') (n : NotTup H q) : FactsAt H' kvs us := by
  induction h with
  | nil => exact .nil
  | snoc _ e ih => exact .snoc ih (e.keep k n)
theorem FactsAt.same {H H' : Hp} {kvs : List (Key × V)} {us : List (Str × UF)} (h : FactsAt H kvs us) (s : Same H H') : FactsAt H' kvs us := by
  induction h with
  | nil => exact .nil
  | snoc _ e ih => exact .snoc ih (e.same s)
theorem FactsAt.len {H : Hp} {kvs : List (Key × V)} {us : List (Str × UF)} (h : FactsAt H kvs us) : kvs.length = us.length := by
  induction h with
  | nil => rfl
  | snoc _ _ ih => rw [List.length_append, List.length_append, ih]; rfl
theorem FactsAt.keys {H : Hp} {kvs : List (Key × V)} {us : List (Str × UF)} (h : FactsAt H kvs us) : kvs.map (·.1) = us.map fun p => (Sum.inr p.1 : Key) := by
  induction h with
  | nil => rfl
  | snoc _ _ ih => rw [List.map_append, List.map_append, ih]; rfl
theorem FactsAt.free {H : Hp} {kvs : List (Key × V)} {us : List (Str × UF)} (h : FactsAt H kvs us) {w : Str} (hw : w ∉ us.map (·.1)) : valV kvs (Sum.inr w : Key) = none := by
  induction h with
  | nil => rfl
  | @snoc kvs us w' v u h e ih =>
    rw [List.map_append] at hw
    have h1 : w ∉ us.map (·.1) := fun z => hw (List.mem_append_left _ z)
    have h2 : w ≠ w' := fun z => hw (List.mem_append_right _ (List.mem_singleton.mpr z))
    have q1 := ih h1
    have hv : ∀ kvs : List (Key × V), valV kvs (Sum.inr w : Key) = none → valV (kvs ++ [((Sum.inr w' : Key), v)]) (Sum.inr w : Key) = none := by
      intro kvs
      induction kvs with
      | nil => exact fun _ => valV_neg (fun z => h2 (by cases z; rfl))
      | cons p r ih =>
        intro hn
        by_cases hp : p.1 = (Sum.inr w : Key)
        · rw [valV_pos hp] at hn
          cases hn
        · rw [valV_neg hp] at hn
          rw [List.cons_append, valV_neg hp]
          exact ih hn
    exact hv kvs q1
theorem FactsAt.get {H : Hp} {kvs : List (Key × V)} {us : List (Str × UF)} (h : FactsAt H kvs us) (hn : (us.map (·.1)).Nodup) : ∀ p ∈ us, ∃ v, valV kvs (Sum.inr p.1 : Key) = some v ∧ FactAt H v p.2 := by
  induction h with
  | nil => intro p hp; cases hp
  | @snoc kvs us w v u h e ih =>
    intro p hp
    rw [List.map_append] at hn
    obtain ⟨n1, _, n3⟩ := List.nodup_append.mp hn
    have hw : w ∉ us.map (·.1) := fun z => n3 w z w (List.mem_singleton.mpr rfl) rfl
    have hf := h.free hw
    rw [valV_snoc _ _ _ _ hf]
    rcases List.mem_append.mp hp with hp1 | hp
    · obtain ⟨v', hv', ha⟩ := ih n1 p hp1
      have hne : ¬ (Sum.inr p.1 : Key) = Sum.inr w := fun z => hw (by cases z; exact List.mem_map.mpr ⟨p, hp1, rfl⟩)
      exact ⟨v', by rw [if_neg hne]; exact hv', ha⟩
    · have e' := List.mem_singleton.mp hp
      subst e'
      exact ⟨v, by rw [if_pos rfl], e⟩
/-- what a drawn unit is -/
structure UOk (ns ss : List Str) (w : Str) (u : UF) : Prop where
  kd : u.kind = Str.ofString "work" ∨ u.kind = Str.ofString "goal" ∨ u.kind = Str.ofString "door"
  nN : u.needs.Nodup
  nW : u.wants.Nodup
  nB : u.bars.Nodup
  nA : u.after.Nodup
  lN : u.needs.length ≤ 8
  lW : u.wants.length ≤ 8
  lB : u.bars.length ≤ 8
  lA : u.after.length ≤ 8
  mem : ∀ x ∈ u.named, (x ∈ ns ∨ x ∈ ss) ∧ x ≠ w
  op1 : u.kind = Str.ofString "door" → u.opens ≠ none
  op2 : u.kind ≠ Str.ofString "door" → u.opens = none
end UW

namespace UW
open PySem L2
theorem cutV_bit (ss : List Str) (b : Bool) : ∃ m : Nat, cutV (ss.map V.str) none (some (if b = true then 1 else 0)) = (ss.take m).map V.str := by
  cases b
  · exact ⟨0, by rw [List.map_take]; exact cutV_to (n := 0)⟩
  · exact ⟨1, by rw [List.map_take]; exact cutV_to (n := 1)⟩
theorem cutV_strs (ss : List Str) (n : Nat) : cutV (ss.map V.str) none (some (n : Int)) = (ss.take n).map V.str := by
  rw [List.map_take]
  exact cutV_to
def rcands (x : Str) : List Str := (List.range 26).map fun i => (⟨#[122 - i]⟩ : Str) ++ x
theorem rcands_nodup (x : Str) : (rcands x).Nodup := by
  unfold rcands
  rw [List.nodup_iff_pairwise_ne, List.pairwise_map]
  refine List.Pairwise.imp_of_mem ?_ List.pairwise_lt_range
  intro a b ha hb hab e
  have ha := List.mem_range.mp ha
  have hb := List.mem_range.mp hb
  have h := congrArg (fun z : Str => z.cps.toList) e
  simp only [sign_app_tl] at h
  injection h with h _
  omega
theorem rcand_nm {i : Nat} (hi : i < 26) : Nm ((⟨#[122 - i]⟩ : Str) ++ Str.ofString "zz") := by
  have e : ((⟨#[122 - i]⟩ : Str) ++ Str.ofString "zz").cps.toList = (122 - i) :: [122, 122] := by
    rw [sign_app_tl]
    have : (Str.ofString "zz").cps.toList = [122, 122] := by decide +kernel
    rw [this]
  refine ⟨fun c hc => ?_, ?_, ?_⟩
  · rw [e] at hc
    rcases List.mem_cons.mp hc with rfl | hc
    · omega
    · rcases List.mem_cons.mp hc with rfl | hc
      · omega
      · rw [List.mem_singleton.mp hc]
        omega
  · rw [len_tl', e]
    exact Nat.zero_lt_succ _
  · rw [len_tl', e]
    show 3 ≤ 8
    omega
theorem filter_free {α : Type} [DecidableEq α] {cs ds : List α} (hn : cs.Nodup) (h : ds.length < cs.length) : 0 < (cs.filter fun x => decide (x ∉ ds)).length := by
  obtain ⟨c, hc, hd⟩ := free_in hn h
  exact List.length_pos_of_mem (List.mem_filter.mpr ⟨hc, decide_eq_true hd⟩)
theorem take_filter_snoc {α : Type} (f : α → Bool) {xs : List α} {i : Nat} {x : α} (h : xs[i]? = some x) : (xs.take (i + 1)).filter f = (xs.take i).filter f ++ (if f x = true then [x] else []) := by
  rw [List.take_add_one, h, List.filter_append]
  show _ ++ List.filter f [x] = _
  cases hf : f x
  · rw [List.filter_cons_of_neg (by rw [hf]; exact Bool.false_ne_true), if_neg Bool.false_ne_true]
    rfl
  · rw [List.filter_cons_of_pos hf, if_pos rfl]
    rfl
theorem map_str_get {xs : List Str} {i : Nat} {x : V} (h : (xs.map V.str)[i]? = some x) : ∃ w, xs[i]? = some w ∧ x = .str w := by
  rw [List.getElem?_map] at h
  cases hx : xs[i]? with
  | none => rw [hx] at h; cases h
  | some w => rw [hx] at h; exact ⟨w, rfl, by injection h with h; exact h.symm⟩
end UW

namespace UW
open PySem L2
/-- [z1, ..][take(bag, k)], the menu just laid at l -/
theorem pick_menu {K : PySem.W.Frag} {H : Hp} {p l : Addr} {n : Nat} (zs : List V) {k : Int} {Q : VK} {E' : XK} (B : Bag n H p) (hn : n < 900000000) (hl : H l = none) (hk : k = (zs.length : Int)) (hz0 : 0 < zs.length) (hz1 : zs.length < 1000)
    (q : ∀ (z : V) H', z ∈ zs → Bag (n + 1) H' p → Kp p H H' → Q z H') :
    spTake [.ref p, .int k] (upd H l (.lst zs)) (fun v H2 => rIxL K (.ref l) v H2 Q) E' := by
  subst hk
  generalize hE : upd H l _ = H1
  have k1 := new_at hE
  have s1 := new_same hE hl
  have npl := B.ne hl
  refine take_of (B.same s1) (by omega) (by omega) (by omega) fun r H2 r0 r1 B2 kp2 => ?_
  obtain ⟨j, rfl⟩ := Int.eq_ofNat_of_zero_le r0
  have hj : j < zs.length := by omega
  refine ⟨l, _, _, zs[j], rfl, rfl, SqL.of (kp2 _ _ k1 npl.symm), atI_nat (List.getElem?_eq_getElem hj), ?_⟩
  exact q _ H2 (List.getElem_mem hj) B2 ((Kp.of s1).trans kp2)
theorem mix_ok {ns ss zs : List Str} {w : Str} (hn : ns.Nodup) (hs : ss.Nodup) (hm : ∀ x ∈ ns, Nm x) (ht : ∀ x ∈ ss, Nm x ∧ x ∉ ns) (h1 : ns.length ≤ 20) (h2 : ss.length ≤ 2) (hw : w ∈ ns) (hz : zs.Sublist ss) :
    ((ns.filter fun x => decide (x ≠ w)) ++ zs).Nodup ∧ ((ns.filter fun x => decide (x ≠ w)) ++ zs).length ≤ 100 ∧ (∀ x ∈ (ns.filter fun x => decide (x ≠ w)) ++ zs, Nm x) ∧ ∀ x ∈ (ns.filter fun x => decide (x ≠ w)) ++ zs, (x ∈ ns ∨ x ∈ ss) ∧ x ≠ w := by
  have key : ∀ x ∈ (ns.filter fun x => decide (x ≠ w)) ++ zs, Nm x ∧ (x ∈ ns ∨ x ∈ ss) ∧ x ≠ w := fun x hx => by
    rcases List.mem_append.mp hx with hx | hx
    · obtain ⟨a, b⟩ := List.mem_filter.mp hx
      exact ⟨hm x a, .inl a, of_decide_eq_true b⟩
    · have hx' := hz.subset hx
      exact ⟨(ht x hx').1, .inr hx', fun e => (ht x hx').2 (e ▸ hw)⟩
  refine ⟨List.nodup_append.mpr ⟨List.Nodup.sublist List.filter_sublist hn, List.Nodup.sublist hz hs, fun a ha b hb e => ?_⟩, ?_, fun x hx => (key x hx).1, fun x hx => (key x hx).2⟩
  · exact (ht b (hz.subset hb)).2 (e ▸ (List.mem_filter.mp ha).1)
  · rw [List.length_append]
    have := hz.length_le
    have := List.length_filter_le (fun x => decide (x ≠ w)) ns
    omega
end UW

namespace UW
open PySem L2
theorem tup_same {K : PySem.W.Frag} {H H' : Hp} {a : Addr} {xs : List V} (e : Same H H') (h : SqT K H a xs) : SqT K H' a xs := SqT.ext h e
/-- what isn't a tuple, nor a frozen one -/
def NotTp (H : Hp) (q : Addr) : Prop := ∀ xs, H q ≠ some (.tup xs) ∧ ∀ o, H q ≠ some (.frz o (.tup xs))
theorem NotTp.lst {H : Hp} {q : Addr} {xs : List V} (h : H q = some (.lst xs)) : NotTp H q := fun ys => ⟨(fun e => by rw [h] at e; cases e), (fun o e => by rw [h] at e; cases e)⟩
theorem NotTp.dK {H : Hp} {q : Addr} {xs : List (Key × V)} (h : H q = some (.dK xs)) : NotTp H q := fun ys => ⟨(fun e => by rw [h] at e; cases e), (fun o e => by rw [h] at e; cases e)⟩
theorem NotTp.ins {H : Hp} {q C dx : Addr} {fs : List (Str × V)} (h : H q = some (.ins C dx fs)) : NotTp H q := fun ys => ⟨(fun e => by rw [h] at e; cases e), (fun o e => by rw [h] at e; cases e)⟩
theorem Bag.notTp {n : Nat} {H : Hp} {p : Addr} (b : Bag n H p) : NotTp H p := by
  obtain ⟨_, _, _, h, _⟩ := b.ex
  exact .lst h
theorem Kp.tup {K : PySem.W.Frag} {H H' : Hp} {q a : Addr} {xs : List V} (k : Kp q H H') (n : NotTp H q) (h : SqT K H a xs) : SqT K H' a xs := by
  rcases h with (h | ⟨o, h⟩) | h
  · exact .inl (.inl (k _ _ h fun e => (n xs).1 (e ▸ h)))
  · exact .inl (.inr ⟨o, k _ _ h fun e => (n xs).2 o (e ▸ h)⟩)
  · exact .inr h
end UW

namespace UW
open PySem L2
theorem shaped_strsT {xs : List Str} (h : ∀ x ∈ xs, PyData.strOk x = true) : SeqAt.shaped (.tuple (xs.map PyData.str)) = true := by
  have := shaped_strs h
  unfold SeqAt.shaped at *
  simp only [PyData.canLay0, PyData.depth] at *
  exact this
theorem eqD_strsT {K : PySem.W.Frag} {H : Hp} {a b : Addr} {xs ys : List Str} {Q : VK} (h1 : SqT K H a (xs.map V.str)) (h2 : SqT K H b (ys.map V.str)) (hx : ∀ x ∈ xs, PyData.strOk x = true) (hy : ∀ y ∈ ys, PyData.strOk y = true) (q : Q (.bl (decide (xs = ys))) H) : rEqD K (.ref a) (.ref b) H Q := by
  refine ⟨_, _, .tup h1 (dpAll_strs xs), .tup h2 (dpAll_strs ys), shaped_strsT hx, shaped_strsT hy, ?_⟩
  have e : PyData.eqv (.tuple (xs.map PyData.str)) (.tuple (ys.map PyData.str)) = decide (xs = ys) := by
    simp only [PyData.eqv]
    exact eqvAll_strs xs ys
  rw [e]
  exact q
theorem dec_str {x y : Str} : decide (V.str x = V.str y) = decide (x = y) := decide_eq_decide.mpr ⟨fun e => by cases e; rfl, fun e => by rw [e]⟩
theorem dec_optV {x y : Option Str} : decide (optV x = optV y) = decide (x = y) := decide_eq_decide.mpr ⟨fun e => by
  cases x with
  | none => cases y with
    | none => rfl
    | some y => cases e
  | some x => cases y with
    | none => cases e
    | some y => cases e; rfl, fun e => by rw [e]⟩
theorem scal_optV (x y : Option Str) : scal (optV x) (optV y) = true := by
  cases x <;> cases y <;> rfl
end UW

namespace UW
open PySem L2
theorem neF {x : V} {A B : Prop} (h : B) : if (!decide (x = x)) = true then A else B := by
  rw [decide_eq_true rfl]
  exact iteF h
theorem eqv_strsT (xs : List Str) : PyData.eqv (.tuple (xs.map PyData.str)) (.tuple (xs.map PyData.str)) = true := by
  simp only [PyData.eqv]
  rw [eqvAll_strs]
  exact decide_eq_true rfl
theorem neD_quad {K : PySem.W.Frag} {H : Hp} {l l' a1 a2 a3 a4 b1 b2 b3 b4 : Addr} {x1 x2 x3 x4 : List Str} {Q : VK} (hl : SqL K H l [.ref a1, .ref a2, .ref a3, .ref a4]) (hl' : SqL K H l' [.ref b1, .ref b2, .ref b3, .ref b4])
    (h1 : SqT K H a1 (x1.map V.str)) (h2 : SqT K H a2 (x2.map V.str)) (h3 : SqT K H a3 (x3.map V.str)) (h4 : SqT K H a4 (x4.map V.str)) (g1 : SqT K H b1 (x1.map V.str)) (g2 : SqT K H b2 (x2.map V.str)) (g3 : SqT K H b3 (x3.map V.str)) (g4 : SqT K H b4 (x4.map V.str))
    (k1 : ∀ x ∈ x1, PyData.strOk x = true) (k2 : ∀ x ∈ x2, PyData.strOk x = true) (k3 : ∀ x ∈ x3, PyData.strOk x = true) (k4 : ∀ x ∈ x4, PyData.strOk x = true) (q : Q (.bl false) H) : rNeD K (.ref l) (.ref l') H Q := by
  have sh : SeqAt.shaped (.list [.tuple (x1.map PyData.str), .tuple (x2.map PyData.str), .tuple (x3.map PyData.str), .tuple (x4.map PyData.str)]) = true := by
    refine Bool.and_eq_true_iff.mpr ⟨?_, decide_eq_true ?_⟩
    · simp only [PyData.canLay0, PyData.canLayAll0]
      rw [(layAll_strs k1).1, (layAll_strs k2).1, (layAll_strs k3).1, (layAll_strs k4).1]
      rfl
    · simp only [PyData.depth, PyData.depthAll]
      rw [(layAll_strs k1).2, (layAll_strs k2).2, (layAll_strs k3).2, (layAll_strs k4).2]
      decide
  refine ⟨_, _, .lst hl (.cons (.tup h1 (dpAll_strs x1)) (.cons (.tup h2 (dpAll_strs x2)) (.cons (.tup h3 (dpAll_strs x3)) (.cons (.tup h4 (dpAll_strs x4)) .nil)))), .lst hl' (.cons (.tup g1 (dpAll_strs x1)) (.cons (.tup g2 (dpAll_strs x2)) (.cons (.tup g3 (dpAll_strs x3)) (.cons (.tup g4 (dpAll_strs x4)) .nil)))), sh, sh, ?_⟩
  have e : PyData.eqv (.list [.tuple (x1.map PyData.str), .tuple (x2.map PyData.str), .tuple (x3.map PyData.str), .tuple (x4.map PyData.str)]) (.list [.tuple (x1.map PyData.str), .tuple (x2.map PyData.str), .tuple (x3.map PyData.str), .tuple (x4.map PyData.str)]) = true := by
    rw [show ∀ xs ys, PyData.eqv (.list xs) (.list ys) = PyData.eqvAll xs ys from fun xs ys => by simp only [PyData.eqv]]
    simp only [PyData.eqvAll]
    rw [eqv_strsT, eqv_strsT, eqv_strsT, eqv_strsT]
    rfl
  rw [e]
  exact q
end UW
namespace UW
open PySem PySem.Spec PyProof.Rows L2
section
variable {prog : Program} {w : World} {A : Around} {E : Value → Shared → Prop} {s : Shared}
theorem adjust_back (n : Nat) : Builtin.Slice.sliceAdjust none none (-1) (n : Int) = ((n : Int) - 1, -1) := rfl
theorem places_back (n : Nat) : Builtin.Slice.slicePlaces ((n : Int) - 1) (-1) (-1) = n := by
  unfold Builtin.Slice.slicePlaces
  rw [if_neg (by decide), show (- -1 : Int) = 1 by decide, Int.ediv_one]
  split <;> omega
theorem applied_back {sl : Addr} {vs : Value} {n : Nat} {Q : Int × Int × Nat → Shared → Prop} (hs : s.heap.IsSliceOf sl .none .none vs) (ps : IsPart vs (some (-1))) (h : Q ((n : Int) - 1, -1, n) s) :
    wpAny (model prog w) A (Builtin.Slice.sliceApplied (.ref sl) (pure (n : Int))) Q E s := by
  obtain ⟨os, hos, _, hds⟩ := id hs
  unfold Builtin.Slice.sliceApplied Builtin.Slice.sliceFields
  refine wpAny_bind (wpAny_bind (wpAny_field hos hds (x := .none) rfl (wpAny_bind (wpAny_field hos hds (x := .none) rfl (wpAny_bind (wpAny_field hos hds (x := vs) rfl (wpAny_pure ?_)))))))
  refine wpAny_bind (HT.slicePart_ ps ?_)
  show wpAny _ _ (if ((-1 : Int) == 0) = true then _ else _) _ _ s
  rw [if_neg (by decide)]
  refine wpAny_bind (slicePart_none (wpAny_bind (slicePart_none (wpAny_bind (wpAny_pure ?_)))))
  show wpAny _ _ (pure ((n : Int) - 1, (-1 : Int), Builtin.Slice.slicePlaces ((n : Int) - 1) (-1) (-1))) _ _ s
  rw [places_back]
  exact wpAny_pure h
theorem fm_congr {α β : Type} {f g : α → Option β} : ∀ {l : List α}, (∀ x ∈ l, f x = g x) → l.filterMap f = l.filterMap g
  | [], _ => rfl
  | x :: l, h => by rw [List.filterMap_cons, List.filterMap_cons, h x (List.mem_cons_self ..), fm_congr fun y hy => h y (List.mem_cons_of_mem _ hy)]
theorem pick_back (xs : Array Value) : ((List.range xs.size).filterMap fun (m : Nat) => xs[((xs.size : Int) - 1 + (m : Int) * (-1)).toNat]?).toArray = xs.toList.reverse.toArray := by
  have e : (List.range xs.size).filterMap (fun (m : Nat) => xs[((xs.size : Int) - 1 + (m : Int) * (-1)).toNat]?) = ((List.range xs.size).map fun k => xs.size - 1 - k).filterMap (xs[·]?) := by
    rw [List.filterMap_map]
    refine fm_congr fun m hm => ?_
    have : ((xs.size : Int) - 1 + (m : Int) * (-1)).toNat = xs.size - 1 - m := by
      have := List.mem_range.mp hm
      omega
    show xs[_]? = xs[_]?
    rw [this]
  rw [e, PySem.W.krv_range, List.filterMap_reverse, PySem.W.krv_all]
theorem getItem_back {t sl : Addr} {items : Array Value} {vs : Value} {Q : Value → Shared → Prop} (ht : IsTup s.heap t items) (hs : s.heap.IsSliceOf sl .none .none vs) (ps : IsPart vs (some (-1)))
    (h : Q (.ref s.heap.objs.size) { s with heap := s.heap.push { cls := .type "tuple", data := .seq items.toList.reverse.toArray } }) (hsz : items.size ≤ sizeLine) : wpAny (model prog w) A (getItem (.ref t) (.ref sl)) Q E s := by
  have hok : sizeOk (.seq items.toList.reverse.toArray) := by
    show items.toList.reverse.toArray.size ≤ sizeLine
    rw [List.size_toArray, List.length_reverse, Array.length_toList]
    exact hsz
  have hTs : s.TypeIs (.ref sl) "slice" := by
    obtain ⟨os, hos, hcs, _⟩ := id hs
    exact ⟨os, hos, hcs⟩
  unfold getItem
  try with_reducible refine wpAny_holding ?_
  first | refine wpAny_bind (wpAny_pure ?_) | skip
  refine wpAny_bind (wpAny_sequenceKey ht.typeIs (by decide) ?_)
  refine wpAny_bind (wpAny_callSpecial?_slot (name := Str.ofString "__getitem__") ht.typeIs PyProof.Rows.slot_tuple_getitem
    (wpAny_call_entry PyProof.Rows.slot_tuple_getitem ht.typeIs entry_tuple_getitem ?_ (args_tuple_getitem _ _)))
  show wpAny _ _ (Builtin.Tuple.tupleItemsOf (.ref t) >>= _) _ _ s
  refine wpAny_bind (tupleItemsOf_ ht (wpAny_bind (wpAny_typeOf hTs ?_)))
  rw [if_pos (by decide)]
  refine wpAny_bind (applied_back hs ps ?_)
  show wpAny _ _ (if (((items.size : Int) - 1) == 0 && (-1 : Int) == 1 && items.size == items.size) = true then _ else _) _ _ s
  rw [if_neg (by rw [show ((-1 : Int) == 1) = false from rfl, Bool.and_false, Bool.false_and]; exact Bool.false_ne_true), pick_back]
  exact wpAny_bind (m := Builtin.Tuple.tupleExact _) (wpAny_newObj_type (wpAny_pure ⟨_, rfl, wpAny_pure h⟩) hok)
end
section
variable {X : Cx}
def tRevT (K : PySem.W.Frag) (te : TE) : TE := fun σ H Q => te σ H fun x H1 => ∃ a xs, x = .ref a ∧ SqT K H1 a xs ∧ ∀ p, H1 p = none → Q (.ref p) (upd H1 p (.tup xs.reverse))
theorem pe_revT {e : Expr} {te : TE} {k : Nat} {p1 p2 p3 pos : Pos} (he : PE X e te) : PE X (.Subscript e (.Slice none none (some (.UnaryOp .USub (.Constant (.int 1) k p1) p2)) p3) pos) (tRevT X.K te) := by
  refine ⟨fun pins s σ H Q I h => Subscript_ (thn (he.run pins s σ H _ I h) fun v s1 ⟨x, H1, I1, r1, q1⟩ => ?_)⟩
  obtain ⟨a, xs, ex, hx, q⟩ := q1
  subst ex
  cases r1
  have hst : PO X (some (.UnaryOp .USub (.Constant (.int 1) k p1) p2)) (tPart (tUn (rU fun i => .int (-i)) (tC (.int 1)))) := po_some (pe_un un_neg pe_int)
  refine wpAny_Slice (thn (po_none.run pins s1 σ H1 (fun o H2 => o = none ∧ H2 = H1) I1 ⟨rfl, rfl⟩) fun vl s2 ⟨l, H2, I2, pl, el, e2⟩ => ?_)
  subst el e2
  refine thn (po_none.run pins s2 σ H2 (fun o H3 => o = none ∧ H3 = H2) I2 ⟨rfl, rfl⟩) fun vu s3 ⟨u, H3, I3, pu, eu, e3⟩ => ?_
  subst eu e3
  refine thn (hst.run pins s3 σ H3 (fun o H4 => o = some (-1) ∧ H4 = H3) I3 ⟨1, rfl, -1, rfl, rfl, rfl⟩) fun vs s4 ⟨o, H4, I4, ps, eo, e4⟩ => ?_
  subst eo e4
  cases pl
  cases pu
  have I5 : Inv X pins σ H4 { s4 with heap := s4.heap.push { cls := .type "slice", data := .fields #[.none, .none, vs] } } := I4.kept (t' := s4.toks) fun b ob q => Heap.get?_push_of_some _ q
  obtain ⟨its, r, ht, hz⟩ := I5.tuple hx
  have hlen := r.length
  show wpAny (model X.prog X.w) X.A (subscriptTail e (.Slice none none (some (.UnaryOp .USub (.Constant (.int 1) k p1) p2)) p3) (.ref a) (.ref s4.heap.objs.size)) (EP X pins σ Q) X.xe { s4 with heap := s4.heap.push { cls := .type "slice", data := .fields #[.none, .none, vs] } }
  refine tail_any (ops := [.ref a, .ref s4.heap.objs.size]) ht.typeIs (PyProof.Rows.slot_tuple_getitem.lookup) ?_ (by with_unfolding_all rfl)
  refine getItem_back ht (Heap.IsSliceOf.new _ .none .none vs) ps ?_ (by rw [List.size_toArray]; omega)
  refine ⟨.ref _, _, I5.laid (t' := s4.toks) (o := .tup xs.reverse) (fun b ob q => Heap.get?_push_of_some _ q) (Nat.le_refl _) ?_, rfl, q _ (I5.hok.fresh (Nat.le_refl _))⟩
  exact ⟨by rw [List.length_reverse]; exact hz, _, r.reverse, IsTup.new _ _⟩
end
end UW

namespace UW
open PySem L2
theorem inV_mem (y : Str) (us : List V) : inV (.str y) us = true ↔ V.str y ∈ us := by
  unfold inV
  rw [List.any_eq_true]
  refine ⟨fun ⟨v, hv, e⟩ => ?_, fun h => ⟨_, h, by simp [eqV]⟩⟩
  have : v = .str y := by
    cases v <;> simp [eqV] at e
    rw [e]
  exact this ▸ hv
/-- the candidates that aren't among the given things -/
def frees (x : Str) (us : List V) : List Str := (cands x).filter fun y => !inV (.str y) us
theorem frees_ok {x : Str} {us : List V} {ds : List Str} (h : ∀ y, V.str y ∈ us → y ∈ ds) (hl : ds.length < 26) : ∃ z zs, frees x us = z :: zs ∧ V.str z ∉ us ∧ z ∈ cands x := by
  obtain ⟨c, hc, hd⟩ := free_in (cands_nodup x) (ds := ds) (by unfold cands; rw [List.length_map, List.length_range]; exact hl)
  have hm : c ∈ frees x us := List.mem_filter.mpr ⟨hc, by
    cases he : inV (.str c) us
    · rfl
    · exact absurd (h c ((inV_mem c us).mp he)) hd⟩
  cases hf : frees x us with
  | nil => rw [hf] at hm; cases hm
  | cons z zs =>
    have hz : z ∈ frees x us := by rw [hf]; exact List.mem_cons_self ..
    obtain ⟨h1, h2⟩ := List.mem_filter.mp hz
    refine ⟨z, zs, rfl, fun e => ?_, h1⟩
    rw [(inV_mem z us).mpr e] at h2
    exact Bool.false_ne_true h2
theorem cand_len {x z : Str} (h : z ∈ cands x) : z.length = 1 + x.length := by
  obtain ⟨i, _, rfl⟩ := List.mem_map.mp h
  rw [len_tl', sign_app_tl, List.length_cons, ← len_tl']
  omega
end UW
/-! own layer: objects with their own ==, !=, in, str, repr -/
namespace UO
open PySem PySem.Spec PyProof.Rows L2

section
variable {X : Cx} {CX : CXT} {n : Nat} {f C : Addr} {fd : FuncData} {ps : List Str} {sp : Sp} {E : XK}
/-- a def called from within a builtin -/
theorem call_sub (F : FnOk X.prog X.w X.K X.mg X.base CX n f fd ps sp) (hb : Binds X.K fd ps []) (hx : Passes CX X E) {A : Around} (sb : Sub X n A) {pins : List (Addr × Obj)} {σ : L2.St} {H : Hp} {s : Shared} (I : L2.Inv X pins σ H s)
    {vs : List V} {us : List Value} (r : Vals vs us) {Q : VK} (h : sp vs H Q E) : wpAny (model X.prog X.w) A (call (.ref f) us) (EP X pins σ Q) X.xe s := by
  have e0 : Env0 X.prog X.w X.K X.mg X.base A X.stack s H := by
    have e := I.env0
    exact ⟨by rw [sb.fr]; exact e.frames, e.mod, e.bs, e.bsz, e.funs, e.frf, e.hok, e.bare⟩
  have hl := F.len _ _ _ _ h
  refine wpAny_call (codeAny_mono (F.run A X.stack s H ⟨us, []⟩ us vs _ E sb.room e0 (by
    have := hb s us I.kIn (by rw [List.append_nil, ← r.length]; exact hl)
    rw [List.append_nil] at this
    exact this) r h) fun r s' hq => ?_)
  cases r with
  | error e => exact hx pins σ H s e s' I hq
  | ok fl =>
    cases fl with
    | ret w => exact I.after hq
    | next => exact False.elim hq
    | brk => exact False.elim hq
    | cont => exact False.elim hq

/-- == of two values, by what is asked of them: a truth, and the heap behind it -/
def RcO (X : Cx) (n : Nat) (r : R2) : Prop :=
  ∀ (A : Around) (pins : List (Addr × Obj)) (s : Shared) (σ : L2.St) (H : Hp) (x y : V) (u v : Value) (Q : VK), Sub X n A → L2.Inv X pins σ H s → RelV x u → RelV y v → r x y H Q →
    wpAny (model X.prog X.w) A (richCompare .Eq u v) (fun t s' => ∃ b H', t = .bool b ∧ L2.Inv X pins σ H' s' ∧ Q (.bl b) H') X.xe s
def EqO (X : Cx) (n : Nat) (r : R2) : Prop :=
  ∀ (A : Around) (pins : List (Addr × Obj)) (s : Shared) (σ : L2.St) (H : Hp) (x y : V) (u v : Value) (Q : VK), Sub X n A → L2.Inv X pins σ H s → RelV x u → RelV y v → r x y H Q →
    wpAny (model X.prog X.w) A (eqBool u v) (fun b s' => ∃ H', L2.Inv X pins σ H' s' ∧ Q (.bl b) H') X.xe s
theorem op_rc {r : R2} (h : RcO X n r) (hr : Room n X.A) : OpR X (compareOp .Eq) r := by
  intro pins s σ H x y v u Q I rx ry hq
  show wpAny (model X.prog X.w) X.A (richCompare .Eq v u) (EP X pins σ Q) X.xe s
  refine wpAny_mono (h X.A pins s σ H x y v u Q ⟨hr, rfl⟩ I rx ry hq) (fun t s' z => ?_) fun _ _ x => x
  obtain ⟨b, H', rfl, I', q⟩ := z
  exact ⟨.bl b, H', I', rfl, q⟩
/-- two values that are not one object -/
def apart : V → V → Prop
  | .ref a, .ref b => a ≠ b
  | .ref _, .flt _ => False
  | .flt _, _ => False
  | .ref _, _ => True
  | _, .ref _ => True
  | _, _ => False
theorem eqBool_apart {prog : Program} {w : World} {A : Around} {E : Value → Shared → Prop} {s : Shared} {u v : Value} {x y : V} {Q : Bool → Shared → Prop} (ha : apart x y) (rx : RelV x u) (ry : RelV y v)
    (h : wpAny (model prog w) A (richCompare .Eq u v) (fun t s' => ∃ b, t = .bool b ∧ Q b s') E s) : wpAny (model prog w) A (eqBool u v) Q E s := by
  have fin : ∀ (u v : Value), (u == v) = false → (wpAny (model prog w) A (eqBool u v) Q E s = wpAny (model prog w) A (holding [u, v] (if (u == v) = true then (do rule "eq-bool.same-object"; return true) else (do truthOfDropped (← richCompare .Eq u v)))) Q E s) →
      wpAny (model prog w) A (richCompare .Eq u v) (fun t s' => ∃ b, t = .bool b ∧ Q b s') E s → wpAny (model prog w) A (eqBool u v) Q E s := fun u v k e h => by
    rw [e]
    refine wpAny_holding ?_
    rw [k]
    show wpAny _ _ (do truthOfDropped (← richCompare .Eq u v)) _ _ _
    refine wpAny_bind (wpAny_mono h (fun t s' z => ?_) fun _ _ x => x)
    obtain ⟨b, rfl, q⟩ := z
    exact wpAny_truthy_bool q
  cases x with
  | ref a =>
    cases (show u = Value.ref a from rx)
    cases y with
    | ref b =>
      cases (show v = Value.ref b from ry)
      refine fin _ _ ?_ rfl h
      cases q : (Value.ref a == Value.ref b) with
      | false => rfl
      | true => exact absurd (by have := eq_of_beq q; injection this) ha
    | non => cases (show v = Value.none from ry); exact fin _ _ rfl rfl h
    | bl b => cases (show v = Value.bool b from ry); exact fin _ _ rfl rfl h
    | int i => obtain ⟨t, rfl⟩ := (show ∃ t, v = Value.int i t from ry); exact fin _ _ rfl rfl h
    | str z => obtain ⟨t, rfl⟩ := (show ∃ t, v = Value.str z t from ry); exact fin _ _ rfl rfl h
    | byt z => obtain ⟨t, rfl⟩ := (show ∃ t, v = Value.bytes z t from ry); exact fin _ _ rfl rfl h
    | flt z => exact False.elim ha
    | ty z => cases (show v = Value.type z from ry); exact fin _ _ rfl rfl h
  | _ =>
    cases y with
    | ref b =>
      cases (show v = Value.ref b from ry)
      first
        | exact False.elim ha
        | (cases (show u = Value.none from rx); exact fin _ _ rfl rfl h)
        | (cases (show u = Value.bool _ from rx); exact fin _ _ rfl rfl h)
        | (obtain ⟨t, rfl⟩ := (show ∃ t, u = Value.int _ t from rx); exact fin _ _ rfl rfl h)
        | (obtain ⟨t, rfl⟩ := (show ∃ t, u = Value.str _ t from rx); exact fin _ _ rfl rfl h)
        | (obtain ⟨t, rfl⟩ := (show ∃ t, u = Value.bytes _ t from rx); exact fin _ _ rfl rfl h)
        | (cases (show u = Value.type _ from rx); exact fin _ _ rfl rfl h)
    | _ => exact False.elim ha
theorem RcO.eqO {r : R2} (h : RcO X n r) (ha : ∀ x y H Q, r x y H Q → apart x y) : EqO X n r := by
  intro A pins s σ H x y u v Q sb I rx ry hq
  refine eqBool_apart (ha x y H Q hq) rx ry (wpAny_mono (h A pins s σ H x y u v Q sb I rx ry hq) (fun t s' z => ?_) fun _ _ x => x)
  obtain ⟨b, H', rfl, I', q⟩ := z
  exact ⟨b, rfl, H', I', q⟩

def rAp (r : R2) : R2 := fun x y H Q => apart x y ∧ r x y H Q
theorem RcO.ap {r : R2} (h : RcO X n r) : EqO X n (rAp r) := RcO.eqO (r := rAp r) (fun A pins s σ H x y u v Q sb I rx ry hq => h A pins s σ H x y u v Q sb I rx ry hq.2) fun x y H Q hq => hq.1

/-! ### an instance on the left -/
def rEqO (K : PySem.W.Frag) (C : Addr) (sp : Sp) (E : XK) : R2 := fun x y H Q => ∃ a dx fs t, x = .ref a ∧ H a = some (.ins C dx fs) ∧ TyX K H y t ∧ PySem.W.notFirst K C t = true ∧ sp [x, y] H (fun v H' => ∃ b, v = .bl b ∧ Q (.bl b) H') E
theorem rc_left (F : FnOk X.prog X.w X.K X.mg X.base CX n f fd ps sp) (hs : PySem.W.findIn X.K (.ref C) "__eq__" = some (some (.ref f))) (hf : PySem.W.isFn X.K (.ref f) = true) (hb : Binds X.K fd ps []) (hx : Passes CX X E) : RcO X n (rEqO X.K C sp E) := by
  intro A pins s σ H x y u v Q sb I rx ry hq
  obtain ⟨a, dx, fs, t, rfl, ha, ty, hn, q⟩ := hq
  cases rx
  obtain ⟨mA, J, _⟩ := ins_get I.hok ha
  obtain ⟨od, J, _⟩ := J.look
  obtain ⟨m, hF⟩ := I.fr
  obtain ⟨P, Z, p, _⟩ := kit_of I ry ty
  refine PySem.W.cmp_K (op := .Eq) (tb := t) sb.room.units0 hF I.ok.mod.kin J (Z.ty _ _ I.kIn p) hn hs hf ?_
  have r2 : Vals [V.ref a, y] [Value.ref a, v] := .cons rfl (.cons ry .nil)
  refine wpAny_mono (call_sub F hb hx sb I r2 q) (fun r s' z => ?_) fun _ _ x => x
  obtain ⟨z, H', I', rz, b, rfl, q'⟩ := z
  cases (show r = Value.bool b from rz)
  exact ⟨b, H', rfl, I', q'⟩
end

/-! ### built-in values that decline to be compared with an instance -/
section
open AutoSeq1 (wpAny_loadPart')
open MeetsSeq
theorem int_declines (b : Int) (u : Tok) (l C dx : Addr) : Meets (Builtin.«int.__eq__» ⟨[.int b u, .ref l], []⟩) (fun _ R s => s.heap.get? l = some (PySem.W.instObj C dx) ∧ R (.ok (.ret .notImplemented)) s) :=
  .of_wp fun prog w A R s h => by obtain ⟨hp, g, d, tk, os⟩ := s; obtain ⟨hl, h⟩ := h; unfold PySem.W.instObj at hl; wp_walk using wpAny_loadPart' hl, wpAny_load hl; exact ⟨_, rfl, h⟩
theorem bool_declines (b : Bool) (l C dx : Addr) : Meets (Builtin.«int.__eq__» ⟨[.bool b, .ref l], []⟩) (fun _ R s => s.heap.get? l = some (PySem.W.instObj C dx) ∧ R (.ok (.ret .notImplemented)) s) :=
  .of_wp fun prog w A R s h => by obtain ⟨hp, g, d, tk, os⟩ := s; obtain ⟨hl, h⟩ := h; unfold PySem.W.instObj at hl; wp_walk using wpAny_loadPart' hl, wpAny_load hl; exact ⟨_, rfl, h⟩
theorem str_declines (b : Str) (u : Tok) (l C dx : Addr) : Meets (Builtin.«str.__eq__» ⟨[.str b u, .ref l], []⟩) (fun _ R s => s.heap.get? l = some (PySem.W.instObj C dx) ∧ R (.ok (.ret .notImplemented)) s) :=
  .of_wp fun prog w A R s h => by obtain ⟨hp, g, d, tk, os⟩ := s; obtain ⟨hl, h⟩ := h; unfold PySem.W.instObj at hl; wp_walk using wpAny_loadPart' hl, wpAny_load hl; exact ⟨_, rfl, h⟩
theorem list_declines (p l C dx : Addr) (items : Array Value) (k : Nat) (dd : Option Addr) (sl : Array (Option Value)) : Meets (Builtin.«list.__eq__» ⟨[.ref p, .ref l], []⟩)
    (fun A R s => s.heap.get? p = some { cls := .type "list", dict := dd, data := .seq items k, slots := sl } ∧ s.heap.get? l = some (PySem.W.instObj C dx) ∧ (∀ M : Model, PySem.W.Looks M s.heap (isSubtype (.ref C) (.type "list")) false) ∧ R (.ok (.ret .notImplemented)) s) :=
  .of_wp fun prog w A R s h => by
    obtain ⟨hp, g, d, tk, os⟩ := s
    obtain ⟨h1, hl, hs, h⟩ := h
    unfold PySem.W.instObj at hl
    have f1 : ∀ {A : Around} {E : Value → Shared → Prop} {Q : Bool → Shared → Prop}, Q false ⟨hp, g, d, tk, os⟩ → wpAny (model prog w) A (isSubtype (.ref C) (.type "list")) Q E ⟨hp, g, d, tk, os⟩ := fun q => (hs _).here q
    wp_walk using wpAny_loadPart' h1, wpAny_loadPart' hl, f1
    exact ⟨_, rfl, h⟩
theorem tuple_declines (p l C dx : Addr) (items : Array Value) (k : Nat) (dd : Option Addr) (sl : Array (Option Value)) : Meets (Builtin.«tuple.__eq__» ⟨[.ref p, .ref l], []⟩)
    (fun A R s => s.heap.get? p = some { cls := .type "tuple", dict := dd, data := .seq items k, slots := sl } ∧ s.heap.get? l = some (PySem.W.instObj C dx) ∧ (∀ M : Model, PySem.W.Looks M s.heap (isSubtype (.ref C) (.type "tuple")) false) ∧ R (.ok (.ret .notImplemented)) s) :=
  .of_wp fun prog w A R s h => by
    obtain ⟨hp, g, d, tk, os⟩ := s
    obtain ⟨h1, hl, hs, h⟩ := h
    unfold PySem.W.instObj at hl
    have f1 : ∀ {A : Around} {E : Value → Shared → Prop} {Q : Bool → Shared → Prop}, Q false ⟨hp, g, d, tk, os⟩ → wpAny (model prog w) A (isSubtype (.ref C) (.type "tuple")) Q E ⟨hp, g, d, tk, os⟩ := fun q => (hs _).here q
    wp_walk using wpAny_loadPart' h1, wpAny_loadPart' hl, f1
    exact ⟨_, rfl, h⟩
end

section
variable {X : Cx} {CX : CXT} {n : Nat} {f C : Addr} {fd : FuncData} {ps : List Str} {sp : Sp} {E : XK}
/-- a built-in value on the left that declines, an instance on the right -/
theorem rc_refl {prog : Program} {w : World} {A : Around} {E : Value → Shared → Prop} {s : Shared} {K : PySem.W.Frag} {u : Value} {b C f : Addr} {ob : Obj} {od : Option Obj} {Ta id : String} {Q : Value → Shared → Prop} (hu : A.units < cLine) (XK : K.In s.heap)
    (ha : s.TypeIs u Ta) (h1 : Slot Ta "__eq__" id) (J : PySem.W.InstAt s.heap b ob C od) (hsub : PySem.W.mroIn K C (.type Ta) = some false) (hs : PySem.W.findIn K (.ref C) "__eq__" = some (some (.ref f))) (hf : PySem.W.isFn K (.ref f) = true)
    (hc1 : ∀ Q' : Value → Shared → Prop, Q' .notImplemented s → wpAny (model prog w) A (call (.builtin id) [u, .ref b]) Q' E s)
    (hc2 : wpAny (model prog w) A (call (.ref f) [.ref b, u]) (PySem.W.CmpBack Q) E s) : wpAny (model prog w) A (richCompare .Eq u (.ref b)) Q E s := by
  rcases hi : cmpInfo CmpOp.Eq with ⟨sym, g, r⟩
  have e1 : g = ("__eq__" : Str) := by have := congrArg (fun z => z.2.1) hi; exact this.symm
  have e2 : r = ("__eq__" : Str) := by have := congrArg (fun z => z.2.2) hi; exact this.symm
  subst e1 e2
  simp only [richCompare, hi, ha.oneThing_none]
  refine wpAny_holding ?_
  refine wpAny_bind (wpAny_cRoomFor hu ?_)
  refine wpAny_bind (wpAny_typeOf ha (wpAny_bind (J.type.here ?_)))
  rw [show (Value.type Ta != Value.ref C) = true from rfl]
  simp only [if_true]
  refine wpAny_bind ((PySem.W.looks_mroIn XK hsub).here ?_)
  simp only [Bool.false_eq_true, if_false, Bool.not_false, if_true]
  refine wpAny_bind (m := tryCompare u _ (.ref b)) (wpAny_tryCompare_declines ha h1 (hc1 _ ⟨rfl, ?_⟩))
  have one : wpAny (model prog w) A (tryCompare (.ref b) "__eq__" u) (fun r s' => ∃ v, r = some v ∧ Q v s') E s := by
    unfold tryCompare
    refine wpAny_bind (PySem.W.ifBound_K XK J hs hf (wpAny_mono hc2 (fun v s' hv => ?_) fun _ _ e => e))
    cases v <;> first | exact hv.elim | exact wpAny_pure ⟨_, rfl, hv⟩
  refine wpAny_bind (m := tryCompare (.ref b) _ u) (wpAny_mono one (fun r s' z => ?_) fun _ _ e => e)
  obtain ⟨v, rfl, hq⟩ := z
  exact wpAny_pure hq
/-- the built-in type of a plain thing -/
def plainTy (H : Hp) (K : PySem.W.Frag) : V → String → Prop
  | .non, T => T = "NoneType"
  | .bl _, T => T = "bool"
  | .int _, T => T = "int"
  | .str _, T => T = "str"
  | .ref p, T => (T = "list" ∧ ∃ xs, SqL K H p xs) ∨ (T = "tuple" ∧ ∃ xs, SqT K H p xs)
  | _, _ => False
def rEqR (K : PySem.W.Frag) (C : Addr) (sp : Sp) (E : XK) : R2 := fun x y H Q => ∃ b dy gs T, y = .ref b ∧ H b = some (.ins C dy gs) ∧ plainTy H K x T ∧ PySem.W.mroIn K C (.type T) = some false ∧ sp [y, x] H (fun v H' => ∃ b, v = .bl b ∧ Q (.bl b) H') E
theorem rc_right (F : FnOk X.prog X.w X.K X.mg X.base CX n f fd ps sp) (hs : PySem.W.findIn X.K (.ref C) "__eq__" = some (some (.ref f))) (hf : PySem.W.isFn X.K (.ref f) = true) (hb : Binds X.K fd ps []) (hx : Passes CX X E) : RcO X n (rEqR X.K C sp E) := by
  intro A pins s σ H x y u v Q sb I rx ry hq
  obtain ⟨b, dy, gs, T, rfl, hb', pt, hm, q⟩ := hq
  cases ry
  obtain ⟨mA, J0, _⟩ := ins_get I.hok hb'
  have hobj := J0.obj
  obtain ⟨od, J, _⟩ := J0.look
  have hsub : ∀ M : Model, PySem.W.Looks M s.heap (isSubtype (.ref C) (.type T)) false := fun M => PySem.W.looks_mroIn I.kIn hm
  have r2 : Vals [V.ref b, x] [Value.ref b, u] := .cons rfl (.cons rx .nil)
  have back : wpAny (model X.prog X.w) A (call (.ref f) [.ref b, u]) (PySem.W.CmpBack fun t s' => ∃ b H', t = .bool b ∧ L2.Inv X pins σ H' s' ∧ Q (.bl b) H') X.xe s := by
    refine wpAny_mono (call_sub F hb hx sb I r2 q) (fun r s' z => ?_) fun _ _ x => x
    obtain ⟨z, H', I', rz, k, rfl, q'⟩ := z
    cases (show r = Value.bool k from rz)
    exact ⟨k, H', rfl, I', q'⟩
  cases x with
  | non =>
    cases (show u = Value.none from rx)
    cases (show T = "NoneType" from pt)
    exact rc_refl sb.room.units0 I.kIn rfl PySem.F.slot_NoneType_eq J hm hs hf (fun Q' hq' => call_gives PySem.F.slot_NoneType_eq rfl PySem.F.entry_NoneType_eq (PySem.F.args_NoneType_eq_2 _ _) (SeqAt.NoneType___eq___none_ref_0 b) hq') back
  | bl k =>
    cases (show u = Value.bool k from rx)
    cases (show T = "bool" from pt)
    exact rc_refl sb.room.units0 I.kIn rfl PySem.F.slot_bool_eq J hm hs hf (fun Q' hq' => call_meets PySem.F.slot_bool_eq rfl PySem.F.entry_int_eq (PySem.F.args_int_eq_2 _ _) (bool_declines k b C _) ⟨hobj, hq'⟩) back
  | int i =>
    obtain ⟨t, rfl⟩ := (show ∃ t, u = Value.int i t from rx)
    cases (show T = "int" from pt)
    exact rc_refl sb.room.units0 I.kIn (typeIs_int s i t) PySem.F.slot_int_eq J hm hs hf (fun Q' hq' => call_meets PySem.F.slot_int_eq (typeIs_int s i t) PySem.F.entry_int_eq (PySem.F.args_int_eq_2 _ _) (int_declines i t b C _) ⟨hobj, hq'⟩) back
  | str z =>
    obtain ⟨t, rfl⟩ := (show ∃ t, u = Value.str z t from rx)
    cases (show T = "str" from pt)
    exact rc_refl sb.room.units0 I.kIn (typeIs_str s z t) PySem.F.slot_str_eq J hm hs hf (fun Q' hq' => call_meets PySem.F.slot_str_eq (typeIs_str s z t) PySem.F.entry_str_eq (PySem.F.args_str_eq_2 _ _) (str_declines z t b C _) ⟨hobj, hq'⟩) back
  | ref p =>
    cases (show u = Value.ref p from rx)
    rcases pt with ⟨rfl, xs, hp⟩ | ⟨rfl, xs, hp⟩
    · obtain ⟨its, r, pl, hz⟩ := I.list hp
      obtain ⟨⟨cls, dd, data, sl⟩, ho, hc, k, hd⟩ := pl.isList
      simp only at hc hd
      subst hc hd
      exact rc_refl sb.room.units0 I.kIn ⟨_, ho, rfl⟩ PySem.F.slot_list_eq J hm hs hf (fun Q' hq' => call_meets PySem.F.slot_list_eq ⟨_, ho, rfl⟩ PySem.F.entry_list_eq (PySem.F.args_list_eq_2 _ _) (list_declines p b C _ _ _ _ _) ⟨ho, hobj, hsub, hq'⟩) back
    · obtain ⟨its, r, pl, hz⟩ := I.tuple hp
      obtain ⟨⟨cls, dd, data, sl⟩, ho, hc, k, hd⟩ := pl
      simp only at hc hd
      subst hc hd
      exact rc_refl sb.room.units0 I.kIn ⟨_, ho, rfl⟩ PySem.F.slot_tuple_eq J hm hs hf (fun Q' hq' => call_meets PySem.F.slot_tuple_eq ⟨_, ho, rfl⟩ PySem.F.entry_tuple_eq (PySem.F.args_tuple_eq_2 _ _) (tuple_declines p b C _ _ _ _ _) ⟨ho, hobj, hsub, hq'⟩) back
  | _ => exact False.elim pt
end

/-! ### != by the object's own == -/
section
variable {prog : Program} {w : World} {M : Model} {A : Around} {E : Value → Shared → Prop} {s : Shared} {K : PySem.W.Frag} {x C f : Addr} {ox : Obj} {od : Option Obj}
theorem ifBound_B {name : Str} {id : String} {args : List Value} {Q : Option Value → Shared → Prop} (XK : K.In s.heap) (I : PySem.W.InstAt s.heap x ox C od) (hs : PySem.W.findIn K (.ref C) name = some (some (.builtin id)))
    (hb : ∀ self, bindSpecial (.builtin id) self = pure (.builtin id, [self])) (h : wpAny M A (call (.builtin id) (.ref x :: args)) (fun v => Q (some v)) E s) : wpAny M A (callSpecialIfBound? (.ref x) name args) Q E s := by
  simp only [callSpecialIfBound?, bindSpecialIfBound?]
  refine wpAny_holding (wpAny_bind (wpAny_bind (wpAny_bind (I.type.here ((PySem.W.looks_findIn XK hs).here ?_)))))
  refine wpAny_bind (wpAny_askSetting (wpAny_ite ?_))
  have fin : wpAny M A (call (.builtin id) ([.ref x] ++ args) >>= fun v => pure (some v)) Q E s := wpAny_bind (wpAny_mono h (fun v s' h' => wpAny_pure h') fun _ _ h' => h')
  split
  · exact wpAny_bind ((PySem.W.Looks.of_pure (hb _)).here (wpAny_pure (by exact fin)))
  · exact wpAny_tryCatch (wpAny_bind ((PySem.W.Looks.of_pure (hb _)).here (wpAny_pure (by exact fin))))
open Builtin in
theorem call_objNe {b : Value} {Q : Value → Shared → Prop} (hu : A.in1.units < cLine) (XK : K.In s.heap) (I : PySem.W.InstAt s.heap x ox C od) (hm : PySem.W.mroIn K C (.type "object") = some true) (hs : PySem.W.findIn K (.ref C) "__eq__" = some (some (.ref f))) (hf : PySem.W.isFn K (.ref f) = true)
    (h : wpAny (model prog w) A.in1 (call (.ref f) [.ref x, b]) (fun v s' => ∃ k, v = .bool k ∧ Q (.bool (!k)) s') E s) : wpAny (model prog w) A (call (.builtin "object.__ne__") [.ref x, b]) Q E s := by
  refine wpAny_call (codeAny_call_builtin PySem.F.cmp_object.ne.plain PySem.F.cmpEntry_ne (PySem.W.check_slot (i := "object.__ne__") (owner := "object") (n := "__ne__") (by decide +kernel) (by decide +kernel) (I.type.andThen (PySem.W.looks_mroIn XK hm)) (PySem.F.cmpArgs_ne _ _) ?_))
  unfold Builtin.«object.__ne__»
  repeat (first
    | with_reducible refine wpAny_cRoomFor hu ?_
    | (refine wpAny_bind (m := callSpecialIfBound? (.ref x) (Str.ofString "__eq__") [b])
        (PySem.W.ifBound_K XK I hs hf (wpAny_mono h (fun r s' hr => by
          obtain ⟨k, rfl, hq⟩ := hr
          repeat (first | exact hq | exact wpAny_pure hq | exact wpAny_truthy_bool hq | (refine wpAny_bind (m := truthy (.bool _)) (wpAny_truthy_bool ?_)) | wp_step)) fun _ _ e => e)))
    | wp_step)
theorem ne_K {L : Addr} {h₀ : Heap} {m : Str → Option Value} {b tb : Value} {Q : Value → Shared → Prop} (hu : A.in1.units < cLine) (hu0 : A.units < cLine) (XK : K.In s.heap) (I : PySem.W.InstAt s.heap x ox C od) (hb : PySem.W.Looks (model prog w) s.heap (typeOf b) tb) (hn : PySem.W.notFirst K C tb = true)
    (hne : PySem.W.findIn K (.ref C) "__ne__" = some (some (.builtin "object.__ne__"))) (hm : PySem.W.mroIn K C (.type "object") = some true) (hs : PySem.W.findIn K (.ref C) "__eq__" = some (some (.ref f))) (hf : PySem.W.isFn K (.ref f) = true)
    (h : wpAny (model prog w) A.in1 (call (.ref f) [.ref x, b]) (fun v s' => ∃ k, v = .bool k ∧ Q (.bool (!k)) s') E s) : wpAny (model prog w) A (richCompare .NotEq (.ref x) b) Q E s := by
  have one : wpAny (model prog w) A (tryCompare (.ref x) "__ne__" b) (fun r s' => ∃ v, r = some v ∧ Q v s') E s := by
    unfold tryCompare
    refine wpAny_bind (ifBound_B XK I hne PySem.F.cmp_object.ne.bind (call_objNe hu XK I hm hs hf (wpAny_mono h (fun v s' hv => ?_) fun _ _ e => e)))
    obtain ⟨k, rfl, hq⟩ := hv
    exact ⟨k, rfl, wpAny_pure ⟨_, rfl, hq⟩⟩
  unfold richCompare
  simp only [oneThing_ref]
  refine wpAny_holding (wpAny_bind (wpAny_cRoomFor hu0 ?_))
  refine wpAny_bind (I.type.here (wpAny_bind (hb.here ?_)))
  split
  · rename_i q
    have e : PySem.W.subIn K tb (.ref C) = some false := by
      rcases Bool.or_eq_true_iff.mp hn with e | e
      · rw [beq_iff_eq.mp e] at q; simp at q
      · exact beq_iff_eq.mp e
    refine wpAny_bind ((PySem.W.looks_subIn XK e).here ?_)
    simp only [Bool.false_eq_true, if_false]
    refine wpAny_bind (wpAny_mono one (fun r s' z => ?_) fun _ _ e => e)
    obtain ⟨v, rfl, hq⟩ := z
    exact wpAny_pure hq
  · refine wpAny_bind (wpAny_pure ?_)
    simp only [Bool.false_eq_true, if_false]
    refine wpAny_bind (wpAny_mono one (fun r s' z => ?_) fun _ _ e => e)
    obtain ⟨v, rfl, hq⟩ := z
    exact wpAny_pure hq
end
section
variable {X : Cx} {CX : CXT} {n : Nat} {f C : Addr} {fd : FuncData} {ps : List Str} {sp : Sp} {E : XK}
def rNeO (K : PySem.W.Frag) (C : Addr) (sp : Sp) (E : XK) : R2 := fun x y H Q => ∃ a dx fs t, x = .ref a ∧ H a = some (.ins C dx fs) ∧ TyX K H y t ∧ PySem.W.notFirst K C t = true ∧ sp [x, y] H (fun v H' => ∃ b, v = .bl b ∧ Q (.bl (!b)) H') E
theorem op_neO (F : FnOk X.prog X.w X.K X.mg X.base CX n f fd ps sp) (hs : PySem.W.findIn X.K (.ref C) "__eq__" = some (some (.ref f))) (hf : PySem.W.isFn X.K (.ref f) = true) (hb : Binds X.K fd ps []) (hx : Passes CX X E)
    (hne : PySem.W.findIn X.K (.ref C) "__ne__" = some (some (.builtin "object.__ne__"))) (hm : PySem.W.mroIn X.K C (.type "object") = some true) (hr : Room (n + 1) X.A) : OpR X (compareOp .NotEq) (rNeO X.K C sp E) := by
  intro pins s σ H x y u v Q I rx ry hq
  obtain ⟨a, dx, fs, t, rfl, ha, ty, hn, q⟩ := hq
  cases rx
  obtain ⟨mA, J, _⟩ := ins_get I.hok ha
  obtain ⟨od, J, _⟩ := J.look
  obtain ⟨P, Z, p, _⟩ := kit_of I ry ty
  have sb : Sub X (n + 1) X.A := ⟨hr, rfl⟩
  show wpAny (model X.prog X.w) X.A (richCompare .NotEq (.ref a) v) (EP X pins σ Q) X.xe s
  have r2 : Vals [V.ref a, y] [Value.ref a, v] := .cons rfl (.cons ry .nil)
  refine ne_K (L := 0) (h₀ := s.heap) (m := fun _ => none) sb.in1.room.units0 sb.room.units0 I.kIn J (Z.ty _ _ I.kIn p) hn hne hm hs hf ?_
  refine wpAny_mono (call_sub F hb hx sb.in1 I r2 q) (fun r s' z => ?_) fun _ _ x => x
  obtain ⟨z, H', I', rz, b, rfl, q'⟩ := z
  cases (show r = Value.bool b from rz)
  exact ⟨b, rfl, .bl (!b), H', I', rfl, q'⟩
end

/-! ### x in [z], [x] == [y], (c, x) == (c, y), by ==  -/
section
open AutoSeq1 (wpAny_loadPart')
open MeetsSeq MeetsSeq2 MeetsSeq3 SeqRoads2 SeqAt
variable {prog : Program} {w : World} {A : Around} {R : Result → Shared → Prop}
/-- the list at l holds one thing -/
def One (s : Shared) (l : Addr) (z : Value) : Prop := ∃ (items : Array Value) (n : Nat), s.heap.get? l = some { cls := .type "list", data := .seq items n } ∧ items[(0 : Int).toNat]? = some z ∧ items[((0 : Int) + 1).toNat]? = none ∧ items.size = 1
theorem One.of {s : Shared} {l : Addr} {z : Value} {n : Nat} (h : s.heap.get? l = some { cls := .type "list", data := .seq #[z] n }) : One s l z := ⟨#[z], n, h, rfl, rfl, rfl⟩
theorem contains_loop1 (l : Addr) (x z : Value) {s : Shared} (h0 : One s l z) (h : R (.ok (.ret (.bool false))) s) :
    wpAny (model prog w) A.in1 (Builtin.«list.__contains__.loop» ⟨[.ref l, x, rawInt ((0 : Int) + 1)], []⟩) (GQ.FinOf prog w A R) (fun e s' => R (.error e) s') s := by
  obtain ⟨items, n, hl, e0, e1, _⟩ := h0
  obtain ⟨hp, g, d, tk, os⟩ := s
  wp_walk using wpAny_loadPart' hl
  rw [e1]
  wp_walk
  exact h
theorem contains1 (l : Addr) (x z : Value) {s : Shared} (h0 : One s l z)
    (he : wpAny (model prog w) A.in1 (eqBool z x) (fun b s' => (∃ z', One s' l z') ∧ R (.ok (.ret (.bool b))) s') (fun e s' => R (.error e) s') s) :
    wpAny (model prog w) A.in1 (Builtin.«list.__contains__» ⟨[.ref l, x], []⟩) (GQ.FinOf prog w A R) (fun e s' => R (.error e) s') s := by
  have step : wpAny (model prog w) A.in1 (Builtin.«list.__contains__.loop» ⟨[.ref l, x, rawInt (0 : Int)], []⟩) (GQ.FinOf prog w A R) (fun e s' => R (.error e) s') s := by
    obtain ⟨items, n, hl, e0, e1, _⟩ := h0
    obtain ⟨hp, g, d, tk, os⟩ := s
    wp_walk using wpAny_loadPart' hl
    rw [e0]
    refine wpAny_bind (wpAny_mono he (fun b s2 h2 => ?_) fun _ _ x => x)
    obtain ⟨⟨z', p2⟩, q2⟩ := h2
    cases b with
    | true =>
      wp_walk
      exact q2
    | false =>
      have nx := contains_loop1 (A := A) (w := w) (prog := prog) (R := R) l x z' p2 q2
      obtain ⟨hp2, g2, d2, tk2, os2⟩ := s2
      wp_walk
      exact ⟨plainId_quiet plain_contains_loop _, codeAny_builtin entry_contains_loop (by
        rw [Around.under_plainId plain_contains_loop _]
        exact nx)⟩
  obtain ⟨items, n, hl, e0, e1, _⟩ := h0
  obtain ⟨hp, g, d, tk, os⟩ := s
  wp_walk using wpAny_loadPart' hl
  exact ⟨plainId_quiet plain_contains_loop _, codeAny_builtin entry_contains_loop (by
    rw [Around.under_plainId plain_contains_loop _]
    exact step)⟩
theorem eq_list1_loop (l b : Addr) (x y : Value) {s : Shared} (h0 : One s l x ∧ One s b y) (h : R (.ok (.ret (.bool true))) s) :
    wpAny (model prog w) A.in1 (Builtin.«list.__eq__.loop» ⟨[.ref l, .ref b, rawInt ((0 : Int) + 1), rawInt 2], []⟩) (GQ.FinOf prog w A R) (fun e s' => R (.error e) s') s := by
  obtain ⟨⟨items, n, hl, e0, e1, z1⟩, items2, n2, hb, f0, f1, z2⟩ := h0
  obtain ⟨hp, g, d, tk, os⟩ := s
  wp_walk using wpAny_loadPart' hl, wpAny_loadPart' hb
  rw [e1, f1]
  wp_walk using wpAny_loadPart' hl, wpAny_loadPart' hb
  show R (.ok (.ret (.bool (items.size == items2.size)))) _
  rw [z1, z2]
  exact h
theorem eq_list1 (l b : Addr) (x y : Value) {s : Shared} (h0 : One s l x ∧ One s b y)
    (he : wpAny (model prog w) A.in1 (eqBool x y) (fun k s' => (∃ x' y', One s' l x' ∧ One s' b y') ∧ R (.ok (.ret (.bool k))) s') (fun e s' => R (.error e) s') s) :
    wpAny (model prog w) A.in1 (Builtin.«list.__eq__» ⟨[.ref l, .ref b], []⟩) (GQ.FinOf prog w A R) (fun e s' => R (.error e) s') s := by
  have step : wpAny (model prog w) A.in1 (Builtin.«list.__eq__.loop» ⟨[.ref l, .ref b, rawInt (0 : Int), rawInt 2], []⟩) (GQ.FinOf prog w A R) (fun e s' => R (.error e) s') s := by
    obtain ⟨⟨items, n, hl, e0, e1, z1⟩, items2, n2, hb, f0, f1, z2⟩ := h0
    obtain ⟨hp, g, d, tk, os⟩ := s
    wp_walk using wpAny_loadPart' hl, wpAny_loadPart' hb
    rw [e0, f0]
    refine wpAny_bind (wpAny_mono he (fun k s2 h2 => ?_) fun _ _ x => x)
    obtain ⟨⟨x', y', p2⟩, q2⟩ := h2
    cases k with
    | true =>
      have nx := eq_list1_loop (A := A) (w := w) (prog := prog) (R := R) l b x' y' p2 q2
      obtain ⟨hp2, g2, d2, tk2, os2⟩ := s2
      wp_walk
      exact ⟨plainId_quiet plain_eq_loop _, codeAny_builtin entry_eq_loop (by
        rw [Around.under_plainId plain_eq_loop _]
        exact nx)⟩
    | false =>
      obtain ⟨⟨items, n, hl, e0, e1, z1⟩, items2, n2, hb, f0, f1, z2⟩ := p2
      obtain ⟨hp2, g2, d2, tk2, os2⟩ := s2
      wp_walk using wpAny_loadPart' hl, wpAny_loadPart' hb
      rw [e0, f0]
      wp_walk
      exact q2
  obtain ⟨⟨items, n, hl, e0, e1, z1⟩, items2, n2, hb, f0, f1, z2⟩ := h0
  obtain ⟨hp, g, d, tk, os⟩ := s
  have f3 := AutoSeq1.sub_list_list
  have hne : ¬ (items.size != items2.size) = true := by simp [z1, z2]
  wp_walk using wpAny_loadPart' hl, wpAny_loadPart' hb
  exact ⟨plainId_quiet plain_eq_loop _, codeAny_builtin entry_eq_loop (by
    rw [Around.under_plainId plain_eq_loop _]
    exact step)⟩
/-- tuples of any length: each two of items compared in turn, to the first that differ; e tells how each comes out -/
theorem tuple_eqB (l b : Addr) (items items2 : Array Value) (n n2 : Nat) (dd dd2 : Option Addr) (sl sl2 : Array (Option Value)) (hsz : items.size = items2.size) (I : Nat → Shared → Prop) (F : Shared → Prop)
    (turn : ∀ i (h1 : i < items.size) (h2 : i < items2.size) s, I i s → wpAny (model prog w) A.in1 (eqBool items[i] items2[i]) (fun r s' => if r = true then I (i + 1) s' else F s') (fun e s' => R (.error e) s') s)
    (fin : ∀ s, I items.size s → R (.ok (.ret (.bool true))) s) (bad : ∀ s, F s → R (.ok (.ret (.bool false))) s) {s : Shared} (hl1 : s.heap.get? l = some { cls := .type "tuple", dict := dd, data := .seq items n, slots := sl }) (hb1 : s.heap.get? b = some { cls := .type "tuple", dict := dd2, data := .seq items2 n2, slots := sl2 }) (h : I 0 s) :
    wpAny (model prog w) A.in1 (Builtin.«tuple.__eq__» ⟨[.ref l, .ref b], []⟩) (GQ.FinOf prog w A R) (fun e s' => R (.error e) s') s := by
  have f2 := AutoSeq1.sub_tuple_tuple
  have hZ : (items.toList.zip items2.toList).length = items.size := by simp [hsz]
  have h0 := h
  obtain ⟨hp, g, d, tk, os⟩ := s
  wp_walk using wpAny_loadPart' hl1, wpAny_loadPart' hb1, wpAny_forIn_list _ (fun rest b s' => b.1 = none ∧ ∃ i, rest = (items.toList.zip items2.toList).drop i ∧ i ≤ items.size ∧ I i s') _
  case turn =>
    rintro ⟨y, x⟩ rest b s' ⟨hb', i, hz, hi, hI⟩
    have hlt : i < (items.toList.zip items2.toList).length := by
      rcases Nat.lt_or_ge i (items.toList.zip items2.toList).length with h' | h'
      · exact h'
      · rw [List.drop_of_length_le h'] at hz; cases hz
    have h1 : i < items.size := hZ ▸ hlt
    have h2 : i < items2.size := hsz ▸ h1
    rw [List.drop_eq_getElem_cons hlt] at hz
    injection hz with hyx hrest
    have hy : y = items[i] := by have := congrArg Prod.fst hyx; simpa using this
    have hx : x = items2[i] := by have := congrArg Prod.snd hyx; simpa using this
    subst hy hx
    refine wpAny_bind (wpAny_mono (turn i h1 h2 s' hI) (fun r s2 q2 => ?_) fun _ _ x => x)
    cases r with
    | true =>
      wp_walk
      exact ⟨rfl, i + 1, hrest, h1, q2⟩
    | false =>
      wp_walk
      exact bad _ q2
  case fin =>
    rintro ⟨b1, b2⟩ s' ⟨hb', i, hz, hi, hI⟩
    simp only at hb'
    subst hb'
    have hge : items.size ≤ i := by
      rcases Nat.lt_or_ge i (items.toList.zip items2.toList).length with h' | h'
      · rw [List.drop_eq_getElem_cons h'] at hz; cases hz
      · exact hZ ▸ h'
    have hi' : i = items.size := by omega
    have hR : R (.ok (.ret (.bool true))) s' := fin s' (hi' ▸ hI)
    wp_walk
    simpa [Builtin.Tuple.tupleCompareSizes, hsz] using hR
  case h =>
    exact ⟨rfl, 0, rfl, Nat.zero_le _, h0⟩
end
section
variable {prog : Program} {w : World} {A : Around} {R : Result → Shared → Prop}
theorem tuple_eq2 (l b : Addr) (c1 c2 x y : Value) (n n2 : Nat) (dd dd2 : Option Addr) (sl sl2 : Array (Option Value)) {s : Shared} (Tr Fa : Shared → Prop)
    (t0 : wpAny (model prog w) A.in1 (eqBool c1 c2) (fun r s' => r = true ∧ s' = s) (fun e s' => R (.error e) s') s)
    (t1 : wpAny (model prog w) A.in1 (eqBool x y) (fun r s' => if r = true then Tr s' else Fa s') (fun e s' => R (.error e) s') s)
    (fin : ∀ s, Tr s → R (.ok (.ret (.bool true))) s) (bad : ∀ s, Fa s → R (.ok (.ret (.bool false))) s) (hl1 : s.heap.get? l = some { cls := .type "tuple", dict := dd, data := .seq #[c1, x] n, slots := sl }) (hb1 : s.heap.get? b = some { cls := .type "tuple", dict := dd2, data := .seq #[c2, y] n2, slots := sl2 }) :
    wpAny (model prog w) A.in1 (Builtin.«tuple.__eq__» ⟨[.ref l, .ref b], []⟩) (GQ.FinOf prog w A R) (fun e s' => R (.error e) s') s := by
  refine tuple_eqB l b #[c1, x] #[c2, y] n n2 dd dd2 sl sl2 rfl (fun i s' => (i = 0 ∧ s' = s) ∨ (i = 1 ∧ s' = s) ∨ (i = 2 ∧ Tr s')) Fa (fun i h1 h2 s' hI => ?_) (fun s' hI => ?_) bad hl1 hb1 (.inl ⟨rfl, rfl⟩)
  · rcases hI with ⟨rfl, rfl⟩ | ⟨rfl, rfl⟩ | ⟨rfl, _⟩
    · show wpAny _ _ (eqBool c1 c2) _ _ _
      refine wpAny_mono t0 (fun r s2 z => ?_) fun _ _ x => x
      obtain ⟨rfl, rfl⟩ := z
      rw [if_pos rfl]
      exact .inr (.inl ⟨rfl, rfl⟩)
    · show wpAny _ _ (eqBool x y) _ _ _
      refine wpAny_mono t1 (fun r s2 z => ?_) fun _ _ x => x
      cases r with
      | true =>
        rw [if_pos rfl] at z ⊢
        exact .inr (.inr ⟨rfl, z⟩)
      | false =>
        rw [if_neg Bool.false_ne_true] at z ⊢
        exact z
    · exact absurd h1 (by simp)
  · rcases hI with ⟨e, _⟩ | ⟨e, _⟩ | ⟨_, h⟩
    · exact absurd e (by simp)
    · exact absurd e (by simp)
    · exact fin s' h
end
/-! ### the operators -/
section
open SeqRoads2
variable {X : Cx} {n : Nat} {r : R2}
theorem one_of {pins : List (Addr × Obj)} {σ : L2.St} {H : Hp} {s : Shared} {a : Addr} {x : V} (I : L2.Inv X pins σ H s) (h : H a = some (.lst [x])) : ∃ u, RelV x u ∧ One s a u := by
  obtain ⟨z, its, k, rv, e⟩ := I.hok a _ h
  cases rv with
  | cons r1 r2 =>
    cases r2
    exact ⟨_, r1, One.of e⟩
theorem one_eq {s : Shared} {a : Addr} {u v : Value} (h1 : One s a u) (h2 : One s a v) : u = v := by
  obtain ⟨i1, n1, g1, e1, _, _⟩ := h1
  obtain ⟨i2, n2, g2, e2, _, _⟩ := h2
  rw [g1] at g2
  cases g2
  rw [e1] at e2
  exact Option.some.inj e2
/-- x in [z] -/
def rIn1 (r : R2) : R2 := fun x y H Q => ∃ p z, y = .ref p ∧ H p = some (.lst [z]) ∧ r z x H (fun t H' => Ext H H' ∧ Q t H')
theorem op_in1 (h : EqO X n r) (hr : Room (n + 1) X.A) : OpR X (compareOp .In) (rIn1 r) := by
  intro pins s σ H x y v u Q I rx ry hq
  obtain ⟨p, z, rfl, hp, q⟩ := hq
  cases ry
  have sb : Sub X (n + 1) X.A := ⟨hr, rfl⟩
  obtain ⟨zu, rz, o1⟩ := one_of I hp
  obtain ⟨items, k, hl, _⟩ := id o1
  show wpAny _ X.A (do return .bool (← contains (.ref p) v)) (EP X pins σ Q) X.xe s
  refine wpAny_bind (wpAny_contains_slot ⟨_, hl, rfl⟩ PySem.F.slot_list_contains (wpAny_mono (GQ.call_here (A := X.A) (E := X.xe) (Q := fun t s' => ∃ b H', t = .bool b ∧ L2.Inv X pins σ H' s' ∧ Q (.bl b) H') PySem.F.slot_list_contains ⟨_, hl, rfl⟩ PySem.F.entry_list_contains (PySem.F.args_list_contains_2 _ _) ?_) (fun t s' hv => ?_) fun _ _ e => e))
  · refine contains1 p v zu o1 ?_
    refine wpAny_mono (h X.A.in1 pins s σ H z x zu v _ sb.in1 I rz rx q) (fun b s' hb => ?_) fun _ _ x => x
    obtain ⟨H', I', ex, q'⟩ := hb
    obtain ⟨zu', rz', o2⟩ := one_of I' (ex _ _ hp)
    exact ⟨⟨zu', o2⟩, b, H', rfl, I', q'⟩
  · obtain ⟨b, H', rfl, I', q'⟩ := hv
    exact wpAny_truthy_bool (wpAny_pure ⟨.bl b, H', I', rfl, q'⟩)
/-- [x] == [y] -/
def rEqL1 (r : R2) : R2 := fun u v H Q => ∃ a b x y, u = .ref a ∧ v = .ref b ∧ H a = some (.lst [x]) ∧ H b = some (.lst [y]) ∧ r x y H (fun t H' => Ext H H' ∧ Q t H')
theorem rc_list1 (h : EqO X n r) : RcO X (n + 1) (rEqL1 r) := by
  intro A pins s σ H x y u v Q sb I rx ry hq
  obtain ⟨a, b, x1, y1, rfl, rfl, ha, hb, q⟩ := hq
  cases rx
  cases ry
  obtain ⟨xu, rxu, o1⟩ := one_of I ha
  obtain ⟨yu, ryu, o2⟩ := one_of I hb
  obtain ⟨items, k, hl, _⟩ := id o1
  obtain ⟨items2, k2, hl2, _⟩ := id o2
  refine wpAny_richCompare_same_room (op := .Eq) ⟨_, hl, rfl⟩ ⟨_, hl2, rfl⟩ PySem.F.slot_list_eq (GQ.call_here PySem.F.slot_list_eq ⟨_, hl, rfl⟩ PySem.F.entry_list_eq (PySem.F.args_list_eq_2 _ _) ?_) sb.room.units0
  refine eq_list1 (R := wants (fun v s' => v ≠ .notImplemented ∧ ∃ b H', v = .bool b ∧ L2.Inv X pins σ H' s' ∧ Q (.bl b) H') X.xe) a b xu yu ⟨o1, o2⟩ ?_
  refine wpAny_mono (h A.in1 pins s σ H x1 y1 xu yu _ sb.in1 I rxu ryu q) (fun k s' hk => ?_) fun _ _ x => x
  obtain ⟨H', I', ex, q'⟩ := hk
  obtain ⟨xu', _, p1⟩ := one_of I' (ex _ _ ha)
  obtain ⟨yu', _, p2⟩ := one_of I' (ex _ _ hb)
  exact ⟨⟨xu', yu', p1, p2⟩, (fun z => nomatch z), k, H', rfl, I', q'⟩
/-- (c, x) == (d, y), c and d ints that are the same -/
def rEqT2 (K : PySem.W.Frag) (r : R2) : R2 := fun u v H Q => ∃ a b c x y, u = .ref a ∧ v = .ref b ∧ SqT K H a [.int c, x] ∧ SqT K H b [.int c, y] ∧ r x y H Q
theorem rc_tup2 (h : EqO X n r) : RcO X (n + 1) (rEqT2 X.K r) := by
  intro A pins s σ H x y u v Q sb I rx ry hq
  obtain ⟨a, b, c, x1, y1, rfl, rfl, ha, hb, q⟩ := hq
  cases rx
  cases ry
  obtain ⟨its, rv, pl, _⟩ := I.tuple ha
  obtain ⟨its2, rv2, pl2, _⟩ := I.tuple hb
  obtain ⟨⟨cls, dd, data, sl⟩, ho, hc, k, hd⟩ := id pl
  obtain ⟨⟨cls2, dd2, data2, sl2⟩, ho2, hc2, k2, hd2⟩ := id pl2
  simp only at hc hd hc2 hd2
  subst hc hd hc2 hd2
  cases rv with
  | cons r1 rv =>
  cases rv with
  | cons r2 rv =>
  cases rv
  cases rv2 with
  | cons q1 rv2 =>
  cases rv2 with
  | cons q2 rv2 =>
  cases rv2
  obtain ⟨t1, rfl⟩ := r1
  obtain ⟨t2, rfl⟩ := q1
  rename_i xu yu
  refine wpAny_richCompare_same_room (op := .Eq) ⟨_, ho, rfl⟩ ⟨_, ho2, rfl⟩ PySem.F.slot_tuple_eq (GQ.call_here PySem.F.slot_tuple_eq ⟨_, ho, rfl⟩ PySem.F.entry_tuple_eq (PySem.F.args_tuple_eq_2 _ _) ?_) sb.room.units0
  refine tuple_eq2 (R := wants (fun v s' => v ≠ .notImplemented ∧ ∃ b H', v = .bool b ∧ L2.Inv X pins σ H' s' ∧ Q (.bl b) H') X.xe) a b (.int c t1) (.int c t2) xu yu k k2 dd dd2 sl sl2
    (fun s' => ∃ H', L2.Inv X pins σ H' s' ∧ Q (.bl true) H') (fun s' => ∃ H', L2.Inv X pins σ H' s' ∧ Q (.bl false) H') ?_ ?_ ?_ ?_ ho ho2
  · exact (SeqAt.EqAt.int_int c t1 c t2) X.prog X.w _ _ ⟨beq_self_eq_true c, rfl⟩
  · refine wpAny_mono (h A.in1 pins s σ H x1 y1 xu yu _ sb.in1 I r2 q2 q) (fun k s2 hk => ?_) fun _ _ x => x
    obtain ⟨H', I', q'⟩ := hk
    cases k with
    | true => exact ⟨H', I', q'⟩
    | false => exact ⟨H', I', q'⟩
  · rintro s' ⟨H', I', q'⟩
    exact ⟨(fun z => nomatch z), true, H', rfl, I', q'⟩
  · rintro s' ⟨H', I', q'⟩
    exact ⟨(fun z => nomatch z), false, H', rfl, I', q'⟩
end

/-! ### str(x), repr(x), f"{x}" of an instance -/
section
variable {X : Cx} {CX : CXT} {n : Nat} {f C : Addr} {fd : FuncData} {ps : List Str} {sp : Sp} {E : XK}
def rTextO (C : Addr) (sp : Sp) (E : XK) : List V → Hp → VK → Prop := fun xs H Q => ∃ a dx fs, xs = [.ref a] ∧ H a = some (.ins C dx fs) ∧ sp xs H (fun v H' => ∃ z, v = .str z ∧ Q (.str z) H') E
theorem text_back {pins : List (Addr × Obj)} {σ : L2.St} {Q : VK} {r : Value} {s' : Shared} (z : EP X pins σ (fun v H' => ∃ z, v = .str z ∧ Q (.str z) H') r s') : PySem.W.StrBack (EP X pins σ Q) r s' := by
  obtain ⟨y, H', I', ry, z, rfl, q'⟩ := z
  obtain ⟨t, rfl⟩ := (show ∃ t, r = Value.str z t from ry)
  exact ⟨.str z, H', I', ⟨t, rfl⟩, q'⟩
theorem call_strO (F : FnOk X.prog X.w X.K X.mg X.base CX n f fd ps sp) (hs : PySem.W.findIn X.K (.ref C) "__str__" = some (some (.ref f))) (hf : PySem.W.isFn X.K (.ref f) = true) (hb : Binds X.K fd ps []) (hx : Passes CX X E) (hr : Room (n + 2) X.A) :
    CallR X (.type "str") (rTextO C sp E) := by
  intro pins s σ H xs us Q I r h
  obtain ⟨a, dx, fs, rfl, ha, q⟩ := h
  have r2 : Vals [V.ref a] [Value.ref a] := .cons rfl .nil
  rw [Vals.ref1 r]
  obtain ⟨mA, J, _⟩ := ins_get I.hok ha
  obtain ⟨od, J, _⟩ := J.look
  have sb : Sub X (n + 2) X.A := ⟨hr, rfl⟩
  exact PySem.W.kso_call sb.in1.in1.room.units0 I.kIn J hs hf (wpAny_mono (call_sub F hb hx sb.in1.in1 I r2 q) (fun r s' z => text_back z) fun _ _ x => x)
theorem call_reprO (F : FnOk X.prog X.w X.K X.mg X.base CX n f fd ps sp) (hs : PySem.W.findIn X.K (.ref C) "__repr__" = some (some (.ref f))) (hf : PySem.W.isFn X.K (.ref f) = true) (hb : Binds X.K fd ps []) (hx : Passes CX X E) (hr : Room (n + 1) X.A) :
    CallR X (.builtin "repr") (rTextO C sp E) := by
  intro pins s σ H xs us Q I r h
  obtain ⟨a, dx, fs, rfl, ha, q⟩ := h
  have r2 : Vals [V.ref a] [Value.ref a] := .cons rfl .nil
  rw [Vals.ref1 r]
  obtain ⟨mA, J, _⟩ := ins_get I.hok ha
  obtain ⟨od, J, _⟩ := J.look
  obtain ⟨m, hF⟩ := I.fr
  have sb : Sub X (n + 1) X.A := ⟨hr, rfl⟩
  exact PySem.W.repr_K sb.in1.room.units0 hF I.ok.mod.kin J hs hf (wpAny_mono (call_sub F hb hx sb.in1 I r2 q) (fun r s' z => text_back z) fun _ _ x => x)
def tFmtO (C : Addr) (sp : Sp) (E : XK) (te : TE) : TE := fun σ H Q => te σ H fun x H1 => rTextO C sp E [x] H1 Q
theorem pe_fmtO {e : Expr} {te : TE} {pos : Pos} (F : FnOk X.prog X.w X.K X.mg X.base CX n f fd ps sp) (hs : PySem.W.findIn X.K (.ref C) "__str__" = some (some (.ref f))) (hf : PySem.W.isFn X.K (.ref f) = true) (hb : Binds X.K fd ps []) (hx : Passes CX X E)
    (hfm : PySem.W.findIn X.K (.ref C) "__format__" = some (some (.builtin "object.__format__"))) (hm : PySem.W.mroIn X.K C (.type "object") = some true) (hr : Room (n + 1) X.A) (he : PE X e te) : PE X (.FormattedValue e (-1) none pos) (tFmtO C sp E te) := by
  refine ⟨fun pins s σ H Q I h => ?_⟩
  refine wpAny_FormattedValue_plain (thn (he.run pins s σ H _ I h) fun v s1 hv => ?_)
  obtain ⟨x, H1, I1, r1, a, dx, fs, e1, ha, q⟩ := hv
  cases e1
  cases r1
  have r2 : Vals [V.ref a] [Value.ref a] := .cons rfl .nil
  have I2 := I1.tok (s1.toks + 1)
  obtain ⟨mA, J, _⟩ := ins_get I1.hok ha
  obtain ⟨od, J, _⟩ := J.look
  have sb : Sub X (n + 1) X.A := ⟨hr, rfl⟩
  exact PySem.W.kfo_fieldS sb.in1.room.units0 I1.kIn J hfm hm hs hf (wpAny_mono (call_sub F hb hx sb.in1 I2 r2 q) (fun r s' z => text_back z) fun _ _ x => x)
end
end UO
namespace UO
open PySem L2
/-! ### what the top leaves of a class whose instances are compared -/
def sixT : List String := ["NoneType", "bool", "int", "str", "list", "tuple"]
structure InsX (K : PySem.W.Frag) (C : Addr) : Prop where
  cla : PySem.W.findIn K (.ref C) "__class__" = some (some (.builtin "object.__class__"))
  spe : PySem.W.specialIn K (.builtin "object.__class__") "__get__" = some (some (.builtin "getset_descriptor.__get__"))
  tak : PySem.W.takesIn K (.builtin "object.__class__") = some true
  mro : PySem.W.mroIn K C (.type "object") = some true
  ne : PySem.W.findIn K (.ref C) "__ne__" = some (some (.builtin "object.__ne__"))
  fmt : PySem.W.findIn K (.ref C) "__format__" = some (some (.builtin "object.__format__"))
  kit : ∀ T ∈ sixT, PySem.W.kitOne K (.type T) (.ref C) = some false
  sub : ∀ T ∈ sixT, PySem.W.mroIn K C (.type T) = some false
  fst : ∀ T ∈ sixT, PySem.W.subIn K (.type T) (.ref C) = some false
def insB (x : Str) (K : PySem.W.Frag) : Bool :=
  decide (PySem.W.findIn K (.ref (He.ga K x)) "__class__" = some (some (.builtin "object.__class__"))) && (decide (PySem.W.specialIn K (.builtin "object.__class__") "__get__" = some (some (.builtin "getset_descriptor.__get__"))) &&
  (decide (PySem.W.takesIn K (.builtin "object.__class__") = some true) && (decide (PySem.W.mroIn K (He.ga K x) (.type "object") = some true) && (decide (PySem.W.findIn K (.ref (He.ga K x)) "__ne__" = some (some (.builtin "object.__ne__"))) &&
  (decide (PySem.W.findIn K (.ref (He.ga K x)) "__format__" = some (some (.builtin "object.__format__"))) && (sixT.all (fun T => decide (PySem.W.kitOne K (.type T) (.ref (He.ga K x)) = some false)) &&
  (sixT.all (fun T => decide (PySem.W.mroIn K (He.ga K x) (.type T) = some false)) && sixT.all (fun T => decide (PySem.W.subIn K (.type T) (.ref (He.ga K x)) = some false)))))))))
theorem insB_ok {x : Str} {K : PySem.W.Frag} (h : insB x K = true) : InsX K (He.ga K x) := by
  obtain ⟨h1, h⟩ := He.ba h
  obtain ⟨h2, h⟩ := He.ba h
  obtain ⟨h3, h⟩ := He.ba h
  obtain ⟨h4, h⟩ := He.ba h
  obtain ⟨h5, h⟩ := He.ba h
  obtain ⟨h6, h⟩ := He.ba h
  obtain ⟨h7, h⟩ := He.ba h
  obtain ⟨h8, h9⟩ := He.ba h
  exact ⟨of_decide_eq_true h1, of_decide_eq_true h2, of_decide_eq_true h3, of_decide_eq_true h4, of_decide_eq_true h5, of_decide_eq_true h6, fun T hT => of_decide_eq_true (List.all_eq_true.mp h7 T hT),
    fun T hT => of_decide_eq_true (List.all_eq_true.mp h8 T hT), fun T hT => of_decide_eq_true (List.all_eq_true.mp h9 T hT)⟩
theorem InsX.ty {K : PySem.W.Frag} {C : Addr} (ix : InsX K C) (cl : Cls K C) {H : Hp} {a dx : Addr} {fs : List (Str × V)} (h : H a = some (.ins C dx fs)) : TyX K H (.ref a) (.ref C) := .base (.ins h cl ix.cla ix.spe ix.tak ix.mro)
theorem kit_self (K : PySem.W.Frag) (C : Addr) : PySem.W.kitOne K (.ref C) (.ref C) = some true := by
  unfold PySem.W.kitOne
  rw [if_pos (beq_self_eq_true _)]
theorem first_self (K : PySem.W.Frag) (C : Addr) : PySem.W.notFirst K C (.ref C) = true := by
  unfold PySem.W.notFirst
  rw [beq_self_eq_true, Bool.true_or]
theorem InsX.first {K : PySem.W.Frag} {C : Addr} (ix : InsX K C) {T : String} (hT : T ∈ sixT) : PySem.W.notFirst K C (.type T) = true := by
  unfold PySem.W.notFirst
  rw [ix.fst T hT, beq_self_eq_true, Bool.or_true]
theorem plain_ty {K : PySem.W.Frag} {H : Hp} {x : V} {T : String} (h : plainTy H K x T) : TyX K H x (.type T) ∧ T ∈ sixT := by
  cases x with
  | non => cases (show T = "NoneType" from h); exact ⟨.base .non, by decide⟩
  | bl b => cases (show T = "bool" from h); exact ⟨.base (.bl b), by decide⟩
  | int i => cases (show T = "int" from h); exact ⟨.base (.int i), by decide⟩
  | str z => cases (show T = "str" from h); exact ⟨.base (.str z), by decide⟩
  | ref p =>
    rcases h with ⟨rfl, xs, (h | ⟨o, h⟩) | ⟨o, its, n, h1, h2, _⟩⟩ | ⟨rfl, xs, (h | ⟨o, h⟩) | ⟨o, its, n, h1, h2, _⟩⟩
    · exact ⟨.base (.lst h), by decide⟩
    · exact ⟨.base (.frz h), by decide⟩
    · exact ⟨.kList h1 h2, by decide⟩
    · exact ⟨.base (.tup h), by decide⟩
    · exact ⟨.fTuple h, by decide⟩
    · exact ⟨.kTuple h1 h2, by decide⟩
  | _ => exact False.elim h
/-! ### a Hook with one more Bool -/
abbrev AlB : Type := He.AlD × Bool
def obsB (n : Nat) (fa : List He.Fa) (fn : List He.DefD) (ex : PySem.W.Frag → Bool) (g : Addr → Option Obj) : AlB := (He.obsDG n fa fn g, ex (He.frG g (He.asD g n)))
def hookB (n : Nat) (fa : List He.Fa) (fn : List He.DefD) (ex : PySem.W.Frag → Bool) : PySem.W.Hook where
  α := AlB
  obs := fun s => obsB n fa fn ex s.heap.get?
  val := fun _ => (He.valD fn, true)
  says := fun _ h => ∃ K : PySem.W.Frag, K.In h ∧ He.SaysD fa fn K ∧ ex K = true
  of := fun _ _ e => ⟨_, He.frG_in, congrArg (fun z : AlB => z.1) e, congrArg (fun z : AlB => z.2) e⟩
  keeps := fun _ _ _ ⟨K, hK, c⟩ k => ⟨K, PySem.W.Frag.In.keeps hK k, c⟩
theorem obsB_eq {n : Nat} {fa : List He.Fa} {fn : List He.DefD} {ex : PySem.W.Frag → Bool} {g : Addr → Option Obj} {s : Shared} (h : ∀ a, g a = s.heap.get? a) : obsB n fa fn ex g = (hookB n fa fn ex).obs s := by
  have e : g = s.heap.get? := funext h
  rw [e] <;> rfl
end UO
namespace UO
open PySem L2
/-! ### keyword defaults that are empty tuples -/
def kwAdr (K : PySem.W.Frag) (f : Str × Option Str) (x : Str) : Addr := match K.lookup (He.fAd K f) with
  | some ⟨_, _, .func fd, _⟩ => (match fd.kwdefaults with
    | .ref D => (match PySem.W.nsIn K D x with
      | some (some (.ref a)) => a
      | _ => 0)
    | _ => 0)
  | _ => 0
def tup0B (K : PySem.W.Frag) (a : Addr) : Bool := match K.lookup a with
  | some ⟨.type c, _, .seq its _, _⟩ => decide (c = "tuple") && decide (its.size = 0)
  | _ => false
theorem tup0B_ok {K : PySem.W.Frag} {a : Addr} (h : tup0B K a = true) (H : Hp) : SqT K H a [] := by
  unfold tup0B at h
  cases q : K.lookup a with
  | none =>
    rw [q] at h
    cases h
  | some o =>
    obtain ⟨oc, od, dt, osl⟩ := o
    rw [q] at h
    cases oc with
    | type c =>
      cases dt with
      | seq its n =>
        obtain ⟨h1, h2⟩ := He.ba (show (decide (c = "tuple") && decide (its.size = 0)) = true from h)
        have e : its.size = 0 := of_decide_eq_true h2
        refine .inr ⟨_, its, n, q, congrArg Value.type (of_decide_eq_true h1), rfl, by rw [e]; exact Nat.zero_le _, ?_⟩
        rw [Array.eq_empty_of_size_eq_zero e]
        exact .nil
      | _ => cases h
    | _ => cases dt <;> cases h
end UO

namespace UO
open PySem L2
/-! ### two classes, two rules -/
structure PairX (K : PySem.W.Frag) (C D : Addr) : Prop where
  kit : PySem.W.kitOne K (.ref C) (.ref D) = some false
  fst : PySem.W.notFirst K C (.ref D) = true
def pairB (x y : Str) (K : PySem.W.Frag) : Bool := decide (PySem.W.kitOne K (.ref (He.ga K x)) (.ref (He.ga K y)) = some false) && PySem.W.notFirst K (He.ga K x) (.ref (He.ga K y))
theorem pairB_ok {x y : Str} {K : PySem.W.Frag} (h : pairB x y K = true) : PairX K (He.ga K x) (He.ga K y) := by
  obtain ⟨h1, h2⟩ := He.ba h
  exact ⟨of_decide_eq_true h1, h2⟩
def rOr (r1 r2 : R2) : R2 := fun x y H Q => r1 x y H Q ∨ r2 x y H Q
theorem op_or {X : Cx} {f : Value → Value → Sem Value} {r1 r2 : R2} (h1 : OpR X f r1) (h2 : OpR X f r2) : OpR X f (rOr r1 r2) := by
  intro pins s σ H x y v u Q I rx ry h
  rcases h with h | h
  · exact h1 pins s σ H x y v u Q I rx ry h
  · exact h2 pins s σ H x y v u Q I rx ry h
end UO
namespace UH
open PySem L2
/-! ### a Hook over a written row of addresses, and its run in parts -/
/-- n addresses from a on -/
def upto : Nat → Addr → List Addr
  | 0, _ => []
  | n + 1, a => a :: upto n (a + 1)
def obsA (as : List Addr) (fa : List He.Fa) (fn : List He.DefD) (ex : PySem.W.Frag → Bool) (g : Addr → Option Obj) : UO.AlB := (He.obsD fa fn (He.frG g as), ex (He.frG g as))
def hookA (as : List Addr) (fa : List He.Fa) (fn : List He.DefD) (ex : PySem.W.Frag → Bool) : PySem.W.Hook where
  α := UO.AlB
  obs := fun s => obsA as fa fn ex s.heap.get?
  val := fun _ => (He.valD fn, true)
  says := fun _ h => ∃ K : PySem.W.Frag, K.In h ∧ He.SaysD fa fn K ∧ ex K = true
  of := fun _ _ e => ⟨_, He.frG_in, congrArg Prod.fst e, congrArg Prod.snd e⟩
  keeps := fun _ _ _ q k => q.elim fun K c => ⟨K, PySem.W.Frag.In.keeps c.1 k, c.2⟩
theorem obsA_eq {as : List Addr} {fa : List He.Fa} {fn : List He.DefD} {ex : PySem.W.Frag → Bool} {g : Addr → Option Obj} {s : Shared} (h : ∀ a, g a = s.heap.get? a) : obsA as fa fn ex g = (hookA as fa fn ex).obs s := by
  cases (funext h : g = s.heap.get?)
  rfl
/-- what two looks at one end tell together -/
theorem both {α β γ : Type} {o : Option α} {f : α → β} {g : α → γ} {x : β} {y : γ} (p : o.map f = some x) (q : o.map g = some y) : o.map (fun a => (f a, g a)) = some (x, y) := by
  cases o with
  | none => cases p
  | some a => rw [Option.some.inj p.symm, Option.some.inj q.symm]; rfl
open PySem.W HandSHeadRun in
/-- the run's equation, look by look -/
theorem run_of {r : OpenRow} {q : Program} {H : Hook} {ob : SharedT → H.α} {M : Nat} {loose : List PySem.Str} {w : World}
    (h1 : ∀ os, (endF (stepQ (denQ tabQ) r.prog w) M r.prog w os).map (fun s => looksF r.prog (boot_heap w.params) s.abs) = some true)
    (h2 : ∀ os, (endF (stepQ (denQ tabQ) r.prog w) M r.prog w os).map (fun s => seenQ q loose (importedModules r.prog.main.body) (fun s => xlAt q [] s && recOk r.toRowW.records s) s.abs) = some (openGood q loose))
    (h3 : ∀ os, (endF (stepQ (denQ tabQ) r.prog w) M r.prog w os).map ob = some (H.val w)) : RunEq r q H ob M loose w :=
  fun os => both (h1 os) (both (h2 os) (h3 os))
end UH
/-! own layer: the order of texts, lists of pairs of texts, sets of texts, min(default=), sorted pairs -/
namespace UP
open PySem L2 UW

/-! ### the order of texts -/
def ltS (x y : Str) : Bool := decide (x.cps.toList < y.cps.toList)
def leS (x y : Str) : Bool := !ltS y x
theorem ltS_irr (x : Str) : ltS x x = false := decide_eq_false (List.lt_irrefl _)
theorem ltS_tr {x y z : Str} (h : ltS x y = true) (g : ltS y z = true) : ltS x z = true := decide_eq_true (List.lt_trans (of_decide_eq_true h) (of_decide_eq_true g))
theorem ltS_or {x y : Str} (h : ltS x y = false) (n : x ≠ y) : ltS y x = true := by
  have h1 : ¬ x.cps.toList < y.cps.toList := of_decide_eq_false h
  refine decide_eq_true ?_
  rcases Classical.em (y.cps.toList < x.cps.toList) with h2 | h2
  · exact h2
  · exact absurd (str_ext (List.le_antisymm (List.not_lt.mp h2) (List.not_lt.mp h1))) n
theorem leS_refl (x : Str) : leS x x = true := by
  unfold leS
  rw [ltS_irr]
  rfl
theorem leS_anti {x y : Str} (h : leS x y = true) (g : leS y x = true) : x = y := by
  rcases Classical.em (x = y) with e | e
  · exact e
  · have h1 : ltS y x = false := by
      unfold leS at h
      cases q : ltS y x
      · rfl
      · rw [q] at h
        cases h
    have := ltS_or h1 (fun z => e z.symm)
    unfold leS at g
    rw [this] at g
    cases g
theorem leS_tot (x y : Str) : leS x y = true ∨ leS y x = true := by
  unfold leS
  cases q : ltS y x
  · exact .inl rfl
  · refine .inr ?_
    cases p : ltS x y
    · rfl
    · have := ltS_tr q p
      rw [ltS_irr] at this
      cases this
theorem leS_of_lt {x y : Str} (h : ltS x y = true) : leS x y = true := by
  rcases leS_tot x y with g | g
  · exact g
  · unfold leS at g
    rw [h] at g
    cases g
theorem leS_tr {x y z : Str} (h : leS x y = true) (g : leS y z = true) : leS x z = true := by
  rcases Classical.em (x = y) with e | e
  · rw [e]
    exact g
  rcases Classical.em (y = z) with e' | e'
  · rw [← e']
    exact h
  have a : ltS x y = true := by
    unfold leS at h
    refine ltS_or ?_ (fun q => e q.symm)
    cases q : ltS y x
    · rfl
    · rw [q] at h
      cases h
  have b : ltS y z = true := by
    unfold leS at g
    refine ltS_or ?_ (fun q => e' q.symm)
    cases q : ltS z y
    · rfl
    · rw [q] at g
      cases g
  exact leS_of_lt (ltS_tr a b)
theorem rising_pw : ∀ {p : Str} {xs : List Str}, PyProof.Rows.risingS p xs = true → (p :: xs).Pairwise fun x y => leS x y = true
  | p, [], _ => List.pairwise_singleton ..
  | p, x :: xs, h => by
    unfold PyProof.Rows.risingS at h
    obtain ⟨h1, h2⟩ := Bool.and_eq_true_iff.mp h
    have ih := rising_pw h2
    have hpx : leS p x = true := by
      unfold leS ltS
      rw [← PyProof.Rows.ltCps_eq]
      exact h1
    refine List.pairwise_cons.mpr ⟨fun y hy => ?_, ih⟩
    rcases List.mem_cons.mp hy with e | hy
    · rw [e]
      exact hpx
    · exact leS_tr hpx ((List.pairwise_cons.mp ih).1 y hy)
theorem sorted_pw {xs : List Str} (h : PyProof.Rows.sortedS xs = true) : xs.Pairwise fun x y => leS x y = true := by
  cases xs with
  | nil => exact List.Pairwise.nil
  | cons x xs => exact rising_pw h
/-- two risings of one bag are one -/
theorem pw_uniq {α : Type} {r : α → α → Prop} (an : ∀ x y, r x y → r y x → x = y) : ∀ {xs ys : List α}, xs.Perm ys → xs.Pairwise r → ys.Pairwise r → xs = ys
  | [], ys, p, _, _ => (List.Perm.eq_nil p.symm).symm
  | x :: xs, [], p, _, _ => absurd p.length_eq (by simp)
  | x :: xs, y :: ys, p, h, g => by
    have e : x = y := by
      rcases List.mem_cons.mp (p.mem_iff.mp (List.mem_cons_self (a := x) (l := xs))) with e | hx
      · exact e
      · rcases List.mem_cons.mp (p.mem_iff.mpr (List.mem_cons_self (a := y) (l := ys))) with e | hy
        · exact e.symm
        · exact an _ _ ((List.pairwise_cons.mp h).1 y hy) ((List.pairwise_cons.mp g).1 x hx)
    subst e
    rw [pw_uniq an p.cons_inv (List.pairwise_cons.mp h).2 (List.pairwise_cons.mp g).2]
/-- sorted(texts) -/
def srt (xs : List Str) : List Str := xs.mergeSort leS
theorem srt_perm (xs : List Str) : (srt xs).Perm xs := List.mergeSort_perm ..
theorem srt_pw (xs : List Str) : (srt xs).Pairwise fun x y => leS x y = true := by
  refine List.pairwise_mergeSort (le := leS) (fun a b c h g => leS_tr h g) (fun a b => ?_) xs
  rcases leS_tot a b with h | h
  · rw [h]
    rfl
  · rw [h, Bool.or_true]
theorem srt_uniq {xs ys : List Str} (p : ys.Perm xs) (h : ys.Pairwise fun x y => leS x y = true) : ys = srt xs :=
  pw_uniq (fun _ _ a b => leS_anti a b) (p.trans (srt_perm xs).symm) h (srt_pw xs)
theorem srt_of {xs ys : List Str} (p : ys.Perm xs) (h : PyProof.Rows.sortedS ys = true) : ys = srt xs := srt_uniq p (sorted_pw h)
theorem srt_mem {x : Str} {xs : List Str} : x ∈ srt xs ↔ x ∈ xs := (srt_perm xs).mem_iff
theorem srt_len (xs : List Str) : (srt xs).length = xs.length := (srt_perm xs).length_eq
theorem srt_nodup {xs : List Str} (h : xs.Nodup) : (srt xs).Nodup := (srt_perm xs).nodup_iff.mpr h
/-- the least one of which p is true -/
def Least (p : Str → Prop) : Option Str → Prop
  | none => ∀ x, ¬ p x
  | some m => p m ∧ ∀ x, p x → leS m x = true
theorem Least.uniq {p : Str → Prop} {a b : Option Str} (h : Least p a) (g : Least p b) : a = b := by
  cases a with
  | none =>
    cases b with
    | none => rfl
    | some y => exact absurd g.1 (h y)
  | some x =>
    cases b with
    | none => exact absurd h.1 (g x)
    | some y => rw [leS_anti (h.2 y g.1) (g.2 x h.1)]
theorem Least.iff {p q : Str → Prop} {a : Option Str} (h : Least p a) (e : ∀ x, p x ↔ q x) : Least q a := by
  cases a with
  | none => exact fun x z => h x ((e x).mpr z)
  | some m => exact ⟨(e m).mp h.1, fun x z => h.2 x ((e x).mpr z)⟩

/-! ### lists of pairs of texts -/
inductive Prs (K : PySem.W.Frag) (H : Hp) : List V → List (Str × Str) → Prop
  | nil : Prs K H [] []
  | cons {t : Addr} {d : Str × Str} {xs : List V} {ds : List (Str × Str)} : SqT K H t [.str d.1, .str d.2] → Prs K H xs ds → Prs K H (.ref t :: xs) (d :: ds)
section
variable {K : PySem.W.Frag} {H H' : Hp} {xs ys : List V} {ds es : List (Str × Str)}
theorem Prs.same (h : Prs K H xs ds) (s : Same H H') : Prs K H' xs ds := by
  induction h with
  | nil => exact .nil
  | cons a _ ih => exact .cons (tup_same s a) ih
theorem Prs.keep {q : Addr} (h : Prs K H xs ds) (k : Kp q H H') (n : NotTp H q) : Prs K H' xs ds := by
  induction h with
  | nil => exact .nil
  | cons a _ ih => exact .cons (k.tup n a) ih
theorem Prs.len (h : Prs K H xs ds) : xs.length = ds.length := by
  induction h with
  | nil => rfl
  | cons _ _ ih => rw [List.length_cons, List.length_cons, ih]
theorem Prs.app (h : Prs K H xs ds) (g : Prs K H ys es) : Prs K H (xs ++ ys) (ds ++ es) := by
  induction h with
  | nil => exact g
  | cons a _ ih => exact .cons a ih
theorem Prs.one {t : Addr} {d : Str × Str} (a : SqT K H t [.str d.1, .str d.2]) : Prs K H [.ref t] [d] := .cons a .nil
theorem Prs.rev (h : Prs K H xs ds) : Prs K H xs.reverse ds.reverse := by
  induction h with
  | nil => exact .nil
  | cons a _ ih =>
    rw [List.reverse_cons, List.reverse_cons]
    exact ih.app (.one a)
theorem Prs.get {i : Nat} {x : V} (h : Prs K H xs ds) (e : xs[i]? = some x) : ∃ t d, x = .ref t ∧ ds[i]? = some d ∧ SqT K H t [.str d.1, .str d.2] := by
  induction h generalizing i with
  | nil => simp at e
  | @cons t d _ _ a _ ih =>
    cases i with
    | zero =>
      cases e
      exact ⟨t, d, rfl, rfl, a⟩
    | succ i => exact ih e
def enc2 (d : Str × Str) : PyData := .tuple [.str d.1, .str d.2]
def Ok2 (d : Str × Str) : Prop := PyData.strOk d.1 = true ∧ PyData.strOk d.2 = true
theorem Prs.dp (h : Prs K H xs ds) : DpAll K H xs (ds.map enc2) := by
  induction h with
  | nil => exact .nil
  | cons a _ ih => exact .cons (.tup a (.cons (.str _) (.cons (.str _) .nil))) ih
theorem lay2 {d : Str × Str} (h : Ok2 d) : PyData.canLay0 (enc2 d) = true ∧ PyData.depth (enc2 d) = 1 := by
  unfold enc2
  refine ⟨?_, ?_⟩
  · simp only [PyData.canLay0, PyData.canLayAll0, h.1, h.2, Bool.and_self]
  · simp only [PyData.depth, PyData.depthAll, Nat.max_self]
theorem layAll2 : ∀ {ds : List (Str × Str)}, (∀ d ∈ ds, Ok2 d) → PyData.canLayAll0 (ds.map enc2) = true ∧ PyData.depthAll (ds.map enc2) ≤ 1
  | [], _ => ⟨by simp only [List.map_nil, PyData.canLayAll0], by simp only [List.map_nil, PyData.depthAll]; decide⟩
  | d :: ds, h => by
    obtain ⟨c, e⟩ := layAll2 fun y hy => h y (List.mem_cons_of_mem _ hy)
    obtain ⟨c1, e1⟩ := lay2 (h d (List.mem_cons_self ..))
    rw [List.map_cons]
    refine ⟨by simp only [PyData.canLayAll0, c1, c, Bool.and_self], ?_⟩
    simp only [PyData.depthAll, e1]
    omega
theorem shaped2 {d : Str × Str} (h : Ok2 d) : SeqAt.shaped (enc2 d) = true := by
  obtain ⟨a, b⟩ := lay2 h
  refine Bool.and_eq_true_iff.mpr ⟨a, decide_eq_true ?_⟩
  rw [b]
  decide
theorem shapedL2 {ds : List (Str × Str)} (h : ∀ d ∈ ds, Ok2 d) : SeqAt.shaped (.list (ds.map enc2)) = true := by
  obtain ⟨a, b⟩ := layAll2 h
  refine Bool.and_eq_true_iff.mpr ⟨?_, decide_eq_true ?_⟩
  · simp only [PyData.canLay0]
    exact a
  · simp only [PyData.depth]
    omega
theorem eqv2 (d e : Str × Str) : PyData.eqv (enc2 d) (enc2 e) = decide (d = e) := by
  obtain ⟨a, b⟩ := d
  obtain ⟨c, f⟩ := e
  have q := eqvAll_strs [a, b] [c, f]
  unfold enc2
  rw [show ∀ xs ys, PyData.eqv (.tuple xs) (.tuple ys) = PyData.eqvAll xs ys from fun xs ys => by simp only [PyData.eqv]]
  refine q.trans (decide_eq_decide.mpr ⟨fun z => ?_, fun z => ?_⟩)
  · injection z with z1 z2
    injection z2 with z2 _
    rw [z1, z2]
  · injection z with z1 z2
    rw [z1, z2]
theorem any2 (d : Str × Str) : ∀ ds : List (Str × Str), ((ds.map enc2).any fun z => PyData.eqv z (enc2 d)) = decide (d ∈ ds)
  | [] => rfl
  | e :: ds => by
    rw [List.map_cons, List.any_cons, any2 d ds, eqv2]
    by_cases h : e = d
    · rw [decide_eq_true h, Bool.true_or, decide_eq_true (by rw [h]; exact List.mem_cons_self ..)]
    · rw [decide_eq_false h, Bool.false_or]
      exact decide_eq_decide.mpr ⟨fun z => List.mem_cons_of_mem _ z, fun z => (List.mem_cons.mp z).resolve_left fun q => h q.symm⟩
theorem eqvAll2 : ∀ ds es : List (Str × Str), PyData.eqvAll (ds.map enc2) (es.map enc2) = decide (ds = es)
  | [], [] => by simp only [List.map_nil, PyData.eqvAll]; rfl
  | [], y :: ys => by simp only [List.map_nil, List.map_cons, PyData.eqvAll]; rfl
  | x :: xs, [] => by simp only [List.map_nil, List.map_cons, PyData.eqvAll]; rfl
  | x :: xs, y :: ys => by
    rw [List.map_cons, List.map_cons, show ∀ a b as bs, PyData.eqvAll (a :: as) (b :: bs) = (PyData.eqv a b && PyData.eqvAll as bs) from fun a b as bs => by simp only [PyData.eqvAll], eqvAll2 xs ys, eqv2]
    by_cases h : x = y
    · rw [decide_eq_true h, Bool.true_and]
      exact decide_eq_decide.mpr ⟨fun e => by rw [h, e], fun e => by injection e⟩
    · rw [decide_eq_false h, Bool.false_and]
      exact (decide_eq_false fun e => h (by injection e)).symm
theorem eqvL2 (ds es : List (Str × Str)) : PyData.eqv (.list (ds.map enc2)) (.list (es.map enc2)) = decide (ds = es) := by
  rw [show ∀ xs ys, PyData.eqv (.list xs) (.list ys) = PyData.eqvAll xs ys from fun xs ys => by simp only [PyData.eqv]]
  exact eqvAll2 ds es
theorem inD2 {t a : Addr} {d : Str × Str} {Q : VK} (ht : SqT K H t [.str d.1, .str d.2]) (ha : SqL K H a xs) (hx : Prs K H xs ds) (k : Ok2 d) (ks : ∀ d ∈ ds, Ok2 d) (q : Q (.bl (decide (d ∈ ds))) H) : rInD K (.ref t) (.ref a) H Q := by
  refine ⟨enc2 d, ds.map enc2, .tup ht (.cons (.str _) (.cons (.str _) .nil)), .lst ha hx.dp, shaped2 k, shapedL2 ks, ?_⟩
  rw [any2]
  exact q
theorem notInD2 {t a : Addr} {d : Str × Str} {Q : VK} (ht : SqT K H t [.str d.1, .str d.2]) (ha : SqL K H a xs) (hx : Prs K H xs ds) (k : Ok2 d) (ks : ∀ d ∈ ds, Ok2 d) (q : Q (.bl (!decide (d ∈ ds))) H) : rNotInD K (.ref t) (.ref a) H Q := by
  refine ⟨enc2 d, ds.map enc2, .tup ht (.cons (.str _) (.cons (.str _) .nil)), .lst ha hx.dp, shaped2 k, shapedL2 ks, ?_⟩
  rw [any2]
  exact q
theorem neD2 {a b : Addr} {Q : VK} (ha : SqL K H a xs) (hx : Prs K H xs ds) (hb : SqL K H b ys) (hy : Prs K H ys es) (k : ∀ d ∈ ds, Ok2 d) (k' : ∀ d ∈ es, Ok2 d) (q : Q (.bl (!decide (ds = es))) H) : rNeD K (.ref a) (.ref b) H Q := by
  refine ⟨_, _, .lst ha hx.dp, .lst hb hy.dp, shapedL2 k, shapedL2 k', ?_⟩
  rw [eqvL2]
  exact q
theorem eqD2 {a b : Addr} {Q : VK} (ha : SqL K H a xs) (hx : Prs K H xs ds) (hb : SqL K H b ys) (hy : Prs K H ys es) (k : ∀ d ∈ ds, Ok2 d) (k' : ∀ d ∈ es, Ok2 d) (q : Q (.bl (decide (ds = es))) H) : rEqD K (.ref a) (.ref b) H Q := by
  refine ⟨_, _, .lst ha hx.dp, .lst hb hy.dp, shapedL2 k, shapedL2 k', ?_⟩
  rw [eqvL2]
  exact q
end
end UP

namespace UP
open PySem PySem.Spec PyProof.Rows L2 UW
/-! ### min(texts, default=None) -/
def rMinS (K : PySem.W.Frag) : List V → List V → Hp → VK → Prop := fun vs zs H Q => ∃ (a : Addr) (xs : List Str), vs = [.ref a] ∧ zs = [.non] ∧ SqL K H a (xs.map V.str) ∧ ∀ o, Least (fun x => x ∈ xs) o → Q (optV o) H
theorem minOf_mem (x : Str) : ∀ xs : List Str, PySem.W.minOf x xs ∈ x :: xs
  | [] => List.mem_cons_self ..
  | y :: ys => by
    show PySem.W.minOf (if PySem.W.DatumOrd.lt y x = true then y else x) ys ∈ x :: y :: ys
    have := minOf_mem (if PySem.W.DatumOrd.lt y x = true then y else x) ys
    rcases List.mem_cons.mp this with e | e
    · rw [e]
      split
      · exact List.mem_cons_of_mem _ (List.mem_cons_self ..)
      · exact List.mem_cons_self ..
    · exact List.mem_cons_of_mem _ (List.mem_cons_of_mem _ e)
theorem minOf_le (x : Str) : ∀ xs : List Str, ∀ z ∈ x :: xs, leS (PySem.W.minOf x xs) z = true
  | [], z, hz => by
    rw [List.mem_singleton.mp hz]
    exact leS_refl _
  | y :: ys, z, hz => by
    show leS (PySem.W.minOf (if PySem.W.DatumOrd.lt y x = true then y else x) ys) z = true
    have ih := minOf_le (if PySem.W.DatumOrd.lt y x = true then y else x) ys
    have h0 := ih _ (List.mem_cons_self ..)
    have hx : leS (if PySem.W.DatumOrd.lt y x = true then y else x) x = true ∧ leS (if PySem.W.DatumOrd.lt y x = true then y else x) y = true := by
      rcases Classical.em (PySem.W.DatumOrd.lt y x = true) with c | c
      · rw [if_pos c]
        exact ⟨leS_of_lt c, leS_refl _⟩
      · rw [if_neg c]
        refine ⟨leS_refl _, ?_⟩
        unfold leS
        rw [show ltS y x = false from Bool.eq_false_iff.mpr c]
        rfl
    rcases List.mem_cons.mp hz with e | hz
    · rw [e]
      exact leS_tr h0 hx.1
    · rcases List.mem_cons.mp hz with e | hz
      · rw [e]
        exact leS_tr h0 hx.2
      · exact ih z (List.mem_cons_of_mem _ hz)
theorem vals_get : ∀ {vs : List V} {us : List Value}, Vals vs us → ∀ {i : Nat} {v : Value}, us[i]? = some v → ∃ x, vs[i]? = some x ∧ RelV x v
  | _, _, .nil, i, v, h => by simp at h
  | _, _, .cons r t, 0, v, h => by
    cases h
    exact ⟨_, rfl, r⟩
  | _, _, .cons r t, i + 1, v, h => vals_get t (i := i) h
theorem cr_minS {X : Cx} (hc : X.calm = true) (hu : X.A.units + 64 < cLine) : CallRK X (.builtin "min") [Str.ofString "default"] (rMinS X.K) := by
  intro pins s σ H vs zs us ws Q I r rz h
  obtain ⟨a, xs, rfl, rfl, hs, q⟩ := h
  obtain ⟨its, rv, hl, _⟩ := I.list hs
  rw [Vals.ref1 r]
  obtain ⟨w1, rfl, rfl⟩ := vals1 rz
  obtain ⟨as, hr⟩ := Dp.readsAll I (xs.map PyData.str) _ _ (dpAll_strs (K := X.K) (H := H) xs) rv
  have hold : PySem.W.HoldAll s.heap its.toArray.toList xs := ⟨as, hr⟩
  refine PySem.W.min_list_datum_default (I.ok.hd hc) hl.isList hold (by show X.A.units + 1 + _ < cLine; have : PySem.W.Datum.depth Str = 0 := rfl; omega) (fun e h' tk hk => ⟨.non, H, I.kept hk, rfl, ?_⟩) fun y ys i v h' tk e hi hv hk => ?_
  · subst e
    exact q none (fun x hx => nomatch hx)
  · subst e
    obtain ⟨bs, rd⟩ := hv
    have hi' : its[i]? = some v := by rw [← List.getElem?_toArray]; exact hi
    obtain ⟨x, hx, rx⟩ := vals_get rv hi'
    obtain ⟨w, hw, rfl⟩ := map_str_get hx
    obtain ⟨t, rfl⟩ := rx
    have ew : w = PySem.W.minOf y ys := by
      change PySem.Reads h' (.str w t) (.str (PySem.W.minOf y ys)) bs at rd
      cases rd
      rfl
    refine ⟨.str w, H, I.kept hk, ⟨t, rfl⟩, ?_⟩
    rw [ew]
    exact q (some _) ⟨minOf_mem y ys, fun z hz => minOf_le y ys z hz⟩
end UP

namespace UP
open PySem L2
theorem take_snoc {α : Type} {ds : List α} {i : Nat} {d : α} (h : ds[i]? = some d) : ds.take (i + 1) = ds.take i ++ [d] := by
  rw [List.take_add_one, h]
  rfl
theorem un65 {k : Nat} {A : Around} (r : Room k A) : A.units + 65 < cLine := by
  have := r.un
  omega
end UP

namespace UP
open PySem PySem.Spec PyProof.Rows L2
theorem binds_all {K : PySem.W.Frag} {fd : FuncData} {ps : List Str} (h : ∃ ds, Vals [] ds ∧ Binds K fd ps ds) : Binds K fd ps [] := by
  obtain ⟨ds, r, b⟩ := h
  cases r
  exact b
section
variable {X : Cx}
/-- y = {k: v for ..}, y a plain local -/
theorem ps_setDc {i : Nat} {y : Str} {py pos spos : Pos} {kx vx tg iter : Expr} {ifs : List Expr} {scope : Scope} {own : List (Str × Nat)} {wi : TI} {g : TG} {tt : TT} {tk tv : TE}
    (hc : X.calm = true) (hN : X.N.Nodup) (hy : X.N[i]? = some y) (hyl : X.env.scope.names.lookup y = some .local) (hsw : swapsWith (.DictComp kx vx [⟨tg, iter, ifs, 0⟩] scope pos) (some (.Name y py)) spos.line X.env = pure true)
    (hi : PI X tg iter wi) (ok : BlkOk X.N X.env.scope scope own)
    (hg : ∀ s H C cl fp, PG (X.blk s H scope (compEnvC scope cl C X.env) fp) tg g) (ht : ∀ s H C cl fp, PTs (X.blk s H scope (compEnvC scope cl C X.env) fp) ifs tt)
    (hk : ∀ s H C cl fp, PE (X.blk s H scope (compEnvC scope cl C X.env) fp) kx tk) (hv : ∀ s H C cl fp, PE (X.blk s H scope (compEnvC scope cl C X.env) fp) vx tv)
    (hs : ∀ x, foldedSetIterable iter X.env x = pure x := by intro _; rfl) :
    PS X (.Assign [.Name y py] (.DictComp kx vx [⟨tg, iter, ifs, 0⟩] scope pos) spos) (tAsg (tDc wi g tt tk tv (own.map (·.2))) (gName i)) := by
  refine ⟨fun pins s σ H D I h => ?_⟩
  rw [exec_Assign_Name_used _ _ _ _ hsw]
  refine wpAny_bind (wpAny_standAt (wpAny_bind (wpAny_bind (m := comprehension _ _ _ _ newDict false (eval iter X.env) (some (assign (.Name y py) X.env))) (thn ?_ fun _ z q => wpAny_pure (wpAny_pure q)))))
  refine dc_core (Qf := fun _ z => SP X pins D .next z) hc hN I hi ok hg ht hk hv hs (Q := fun x H1 => gName i x σ H1 D.nx) h fun L C z m H2 I2 q ns fp => ?_
  show wpAny _ _ (assign (.Name y py) X.env (.ref L)) _ _ _
  refine wpAny_assign_Name (store_ok2 (v := V.ref L) I2 hN hy (.inl hyl) rfl (fun z2 J ⟨a, sb, ha⟩ => ?_) (.inr hyl))
  obtain ⟨f0, f1, f2, f3, f4, f5⟩ := fp
  have ne : C ≠ a := ha.elim (fun e => e ▸ f1) fun e q => f4 y a e q.symm
  exact ⟨m, ns.sameBut sb ne, fun h3 sb3 => ⟨_, H2, J.turned (t' := z2.toks) (fun b o hb e => (sb3.2 b hb).trans e) f0 f1 f3 f4 f5, q⟩⟩
theorem sw_dict {kx vx : Expr} {gs : List Comprehension} {scope : Scope} {pos py : Pos} {y : Str} {l : Nat} {env : Env} (hk : env.scope.kind = .function) (hy : env.scope.names.lookup y = some .local) (hl : (py.line == pos.line) = true)
    (ha : (scope.names.any fun (n, k) => n == y && (k == .local || k == .cell)) = false) : swapsWith (.DictComp kx vx gs scope pos) (some (.Name y py)) l env = pure true := by
  have e1 : env.kindOf y = some .local := hy
  have e2 : env.blockKind = .function := by
    unfold Env.blockKind
    rw [hk]
    rfl
  unfold swapsWith
  simp only [e2, e1, ha, Expr.pos, hl]
  rfl
end
end UP

namespace UP
open PySem L2
theorem pe_fldK {X : Cx} {K : PySem.W.Frag} {e : Expr} {f : Str} {pos : Pos} {ta : TE} (hK : X.K = K) (he : PE X e ta) (hb : attributeBase e f X.env (eval e X.env) = eval e X.env) : PE X (.Attribute e f pos) (tFld K ta f) := by
  subst hK
  exact pe_fld he hb
end UP

namespace UP
open PySem L2
theorem pi_listK {X : Cx} {K : PySem.W.Frag} {tg e : Expr} {te : TE} (hK : X.K = K) (he : PE X e te) : PI X tg e (iList K te) := by
  subst hK
  exact pi_list he
theorem pi_tupK {X : Cx} {K : PySem.W.Frag} {tg e : Expr} {te : TE} (hK : X.K = K) (he : PE X e te) : PI X tg e (iTup K te) := by
  subst hK
  exact pi_tup he
end UP

namespace UP
open PySem L2
/-- a walk by one rule or by another -/
def iOr (a b : TI) : TI := fun σ H R => a σ H R ∨ b σ H R
theorem pi_or {X : Cx} {tg e : Expr} {a b : TI} (h : PI X tg e a) (g : PI X tg e b) : PI X tg e (iOr a b) :=
  ⟨fun pins s σ H R I q => q.elim (h.run pins s σ H R I) (g.run pins s σ H R I)⟩
end UP

namespace UP
open PySem PySem.Spec PyProof.Rows L2 UW
/-! ### set(texts), len of it -/
abbrev freshS (led : Bool) : Obj := { cls := .type "set", dict := none, data := .set #[] 0 (.fresh 0 0 led) }
/-- a key that is one of these texts -/
def keyIn (ds : List Str) : Key → Bool
  | .inl _ => false
  | .inr x => decide (x ∈ ds)
/-- the set of these texts stands at a -/
def SetTx (P : Program) (w : World) (h : Heap) (a : Addr) (xs : List Str) : Prop :=
  ∃ ds : List Str, ds.Nodup ∧ (∀ x, x ∈ ds ↔ x ∈ xs) ∧ ds.length ≤ xs.length ∧ h.SetOf (mixKind P w) a (keyIn ds) ds.length
section
variable {P : Program} {w : World} {A : Around} {E : Value → Shared → Prop} {s : Shared}
theorem SetTx.at {h h' : Heap} {a : Addr} {xs : List Str} (S : SetTx P w h a xs) (k : ∀ o, h.get? a = some o → h'.get? a = some o) : SetTx P w h' a xs := by
  obtain ⟨ds, h1, h2, h3, h4⟩ := S
  exact ⟨ds, h1, h2, h3, setOf_at h4 k⟩
theorem setOf_by {h : Heap} {a : Addr} {S S' : Key → Bool} {n n' : Nat} (g : h.SetOf (mixKind P w) a S n) (e : ∀ k, S k = S' k) (en : n = n') : h.SetOf (mixKind P w) a S' n' := by
  obtain rfl : S = S' := funext e
  rw [← en]
  exact g
/-- one text more -/
theorem SetTx.more {h' : Heap} {a : Addr} {xs ds : List Str} {x : Str} (h1 : ds.Nodup) (h2 : ∀ y, y ∈ ds ↔ y ∈ xs) (h3 : ds.length ≤ xs.length)
    (g : h'.SetOf (mixKind P w) a (fun k => keyIn ds k || decide (k = Sum.inr x)) (if keyIn ds (Sum.inr x) = true then ds.length else ds.length + 1)) : SetTx P w h' a (xs ++ [x]) := by
  by_cases c : x ∈ ds
  · refine ⟨ds, h1, fun y => ?_, by rw [List.length_append]; exact Nat.le_succ_of_le h3, ?_⟩
    · rw [List.mem_append, ← h2 y, List.mem_singleton]
      exact ⟨.inl, fun z => z.elim id fun e => e ▸ c⟩
    · refine setOf_by g (fun k => ?_) (if_pos (decide_eq_true c))
      by_cases e : k = Sum.inr x
      · rw [e]
        show (decide (x ∈ ds) || _) = decide (x ∈ ds)
        rw [decide_eq_true c, Bool.true_or]
      · rw [decide_eq_false e, Bool.or_false]
  · refine ⟨ds ++ [x], ?_, fun y => ?_, by rw [List.length_append, List.length_append]; exact Nat.succ_le_succ h3, ?_⟩
    · rw [List.nodup_append]
      exact ⟨h1, List.nodup_cons.mpr ⟨by simp, List.nodup_nil⟩, fun p hp r hr e => c (by rw [← List.mem_singleton.mp hr, ← e]; exact hp)⟩
    · rw [List.mem_append, List.mem_append, h2 y]
    · refine setOf_by g (fun k => ?_) ?_
      · by_cases e : k = Sum.inr x
        · rw [e, decide_eq_true (rfl : (Sum.inr x : Key) = Sum.inr x), Bool.or_true]
          exact (decide_eq_true (List.mem_append_right _ (List.mem_singleton.mpr rfl))).symm
        · rw [decide_eq_false e, Bool.or_false]
          cases k with
          | inl i => rfl
          | inr y =>
            refine decide_eq_decide.mpr ⟨List.mem_append_left _, fun z => (List.mem_append.mp z).elim id fun z => absurd (congrArg Sum.inr (List.mem_singleton.mp z)) e⟩
      · rw [show keyIn ds (Sum.inr x) = false from decide_eq_false c, List.length_append]
        rfl
theorem loop_tx {I S : Addr} {fp wr : List Addr} {G : Array GenState → Array GenState → Prop} {n : Nat} {Pv : Nat → Value → Prop} {St : Nat → Shared → Prop} {R : Result → Shared → Prop}
    (W : WalksS P w A.in1 I fp wr G n Pv St) (off : S ∉ fp) (xs : List Str) (hn : n = xs.length) (room : xs.length + 1 < scanBound) (hv : ∀ i v, Pv i v → ∃ x t, xs[i]? = some x ∧ v = .str x t) :
    ∀ (left i : Nat) (s : Shared), n - i = left → i ≤ n → St i s → SetTx P w s.heap S (xs.take i) →
      (∀ s', Moved (S :: wr) G s s' → SetTx P w s'.heap S xs → R (.ok (.ret .none)) s') →
      codeAny (model P w) A (.builtin "set.update.loop" ⟨[.ref S, .ref I], []⟩) R s := by
  have offw : S ∉ wr := fun z => off (W.sub _ z)
  have wide : ∀ c ∈ wr, c ∈ S :: wr := fun c hc => List.mem_cons_of_mem _ hc
  intro left
  induction left with
  | zero =>
    intro i s hk hi hst hT hR
    obtain rfl : i = n := by omega
    rw [List.take_of_length_le (by omega)] at hT
    refine codeAny_builtin PyProof.Rows.F.entry_set_update_loop ?_
    rw [Around.under_plainId PyProof.Rows.F.plain_set_update_loop _]
    refine wpAny_bind (m := pyNext (.ref I)) (W.done s _ _ hst fun s' hm => ?_)
    exact wpAny_pure (hR s' (hm.mono wide) (hT.at fun o e => hm.heap S o offw e))
  | succ left ih =>
    intro i s hk hi hst hT hR
    have lt : i < n := by omega
    refine codeAny_builtin PyProof.Rows.F.entry_set_update_loop ?_
    rw [Around.under_plainId PyProof.Rows.F.plain_set_update_loop _]
    refine wpAny_bind (m := pyNext (.ref I)) (W.item i s _ _ lt hst fun v s' hP hst' hm => ?_)
    obtain ⟨x, t, hx, rfl⟩ := hv i v hP
    obtain ⟨ds, d1, d2, d3, d4⟩ := hT.at (h' := s'.heap) fun o e => hm.heap S o offw e
    refine wpAny_bind (m := holding [Value.str x t] (setAdd S (.str x t))) (wpAny_holding ?_)
    unfold setAdd
    refine wpAny_holding (wpAny_bind ((mixKind P w).pyHash (k := .inr x) (mixKind_str P w x t) ?_))
    have few : ds.length + 1 < scanBound := by
      rw [List.length_take] at d3
      omega
    refine wpAny_setAddHashed_of (knd := mixKind P w) (s := { s' with toks := s'.toks + 1 }) (mixKind_str P w x t) rfl d4 few fun h' sb hS2 => ?_
    have hT2 : SetTx P w h' S (xs.take (i + 1)) := by
      rw [List.take_add_one, hx]
      exact SetTx.more d1 d2 d3 hS2
    refine wpAny_pure ⟨plainId_quiet PyProof.Rows.F.plain_set_update_loop _, ih (i + 1) _ (by omega) lt (W.frame _ s' _ _ hst' (Nat.le_succ _) fun c hc o e => ?_) hT2 fun s'' hm'' hT'' => ?_⟩
    · rw [sb.2 c fun z : c = S => off (z ▸ hc)]
      exact e
    · refine hR s'' (Moved.trans W.gtrans ((hm.mono wide).then_heap (Nat.le_succ _) fun c o hc e => ?_) hm'') hT''
      rw [sb.2 c fun z : c = S => hc (by rw [z]; exact List.mem_cons_self)]
      exact e
end
end UP

namespace UP
open PySem PySem.Spec PyProof.Rows L2 UW
/-- a walk over the list at l by an iterator that is laid behind a new set, whatever is handled -/
def ListWalk (P : Program) (w : World) (A : Around) (s : Shared) (l : Addr) (its : Array Value) : Prop := ∀ B : Around, B.handled = A.handled → ∀ I : Addr, I = s.heap.objs.size + 1 → ∃ (fp : List Addr) (St : Nat → Heap → Prop),
  Walks P w B I fp [I] its.size (fun i v => its[i]? = some v) St ∧ s.heap.objs.size ∉ fp ∧ ∀ h' : Heap, (∀ b o, s.heap.get? b = some o → h'.get? b = some o) → h'.IsListIter I l 0 → h'.IsList l its → St 0 h'
section
variable {P : Program} {w : World} {A : Around} {E : Value → Shared → Prop} {s : Shared}
set_option maxHeartbeats 3200000 in
/-- set(xs), xs a list of texts -/
theorem call_set_tx {l : Addr} {its : Array Value} (xs : List Str) {Q : Value → Shared → Prop} (hw : ListWalk P w A s l its) (hl : s.heap.IsList l its) (hv : ∀ (i : Nat) (v : Value), its[i]? = some v → ∃ x t, xs[i]? = some x ∧ v = Value.str x t) (hn : its.size = xs.length) (room : xs.length + 1 < scanBound)
    (h : ∀ (h' : Heap) (tk : Nat), SetTx P w h' s.heap.objs.size xs → (∀ b o, s.heap.get? b = some o → h'.get? b = some o) → Q (.ref s.heap.objs.size) { s with heap := h', toks := tk }) :
    wpAny (model P w) A (call (.type "set") [.ref l]) Q E s := by
  obtain ⟨c0, c1, mro⟩ := PySem.F.called_set.mro
  have made := PySem.F.called_set.made
  have sub0 := PySem.F.called_set.sub
  refine wpAny_call (codeAny_of_tree ?_)
  show wpAny _ _ (callAny (.type "set") _) _ _ _
  refine wpAny_pure ⟨Code.quiet_builtin _ (by decide +kernel), codeAny_builtin PySem.F.entry_type_call ?_⟩
  rw [Around.under_plain (weight_type_call_type "set" [.ref l] []) rfl]
  have n1 := PySem.F.called_set.notType
  have n2 := PySem.F.called_set.canCreate
  have n3 := PySem.F.typeCall_set_1 (.ref l)
  repeat (any_goals first | assumption | wp_step)
  refine codeAny_mono (code_set_new_1 (.ref l) (E := E) (Q₁ := fun ob z => ∃ led, ob = .ref s.heap.objs.size ∧ z = { s with heap := s.heap.push (freshS led) }) fun led => ⟨led, rfl, rfl⟩) fun r z hr => ?_
  cases r with
  | error e => exact hr
  | ok fl =>
    cases fl with
    | ret ob =>
      obtain ⟨led, rfl, rfl⟩ := hr
      have here : (s.heap.push (freshS led)).get? s.heap.objs.size = some (freshS led) := Heap.get?_push_size _ rfl
      have ty : Shared.TypeIs { s with heap := s.heap.push (freshS led) } (.ref s.heap.objs.size) "set" := ⟨_, here, rfl⟩
      have i1 := PySem.F.called_set.init.lookup
      have i2 := PySem.F.called_set.init.bind (.ref s.heap.objs.size)
      repeat (any_goals first | assumption | wp_step)
      refine codeAny_mono (codeAny_call_builtin (R := wants (fun r z => r = .none ∧ ∃ h' tk, z = { s with heap := h', toks := tk } ∧ SetTx P w h' s.heap.objs.size xs ∧ (∀ b o, s.heap.get? b = some o → h'.get? b = some o)) E)
        PySem.F.called_set.init.plain PySem.F.entry_set_init (check_set_init_1 ty ?_)) fun r2 z2 hr2 => ?_
      · obtain ⟨ol, hol, hcl, nl, hdl⟩ := hl
        obtain ⟨ocls, odict, odata, oslots⟩ := ol
        simp only at hcl hdl
        subst hcl hdl
        have hol2 : (s.heap.push (freshS led)).get? l = some { cls := .type "list", dict := odict, data := .seq its nl, slots := oslots } := Heap.get?_push_of_some _ hol
        have u1 := PySem.F.sub_list_set
        have u2 := PySem.F.sub_list_frozenset
        have u3 : (Value.type "list" == Value.type "dict") = false := by decide
        have lst : (s.heap.push (freshS led)).IsList l its := ⟨_, hol2, rfl, nl, rfl⟩
        unfold Builtin.«set.__init__» noKeywords Builtin.Frozenset.updateFrom
        generalize hPI : pyIter = PI
        wp_walk
        subst hPI
        refine wpAny_pyIter_list lst (wpAny_bind (wpAny_runValue ?_))
        have ltl : l < s.heap.objs.size := Heap.lt_size hol
        have zsz : (s.heap.push (freshS led)).objs.size = s.heap.objs.size + 1 := Heap.size_push ..
        have neI : l ≠ (s.heap.push (freshS led)).objs.size := by
          rw [zsz]
          exact Nat.ne_of_lt (Nat.lt_succ_of_lt ltl)
        obtain ⟨fp, St, W, off, start⟩ := hw A.in1.in1.in1 rfl _ zsz
        refine loop_tx W.toS off xs hn room hv (its.size - 0) 0 _ (by omega) (Nat.zero_le _) (start _ (fun b o e => Heap.get?_push_of_some _ (Heap.get?_push_of_some _ e)) ⟨_, Heap.get?_push_size _ rfl, rfl, rfl⟩ (lst.push _)) ?_ ?_
        · refine ⟨[], List.nodup_nil, fun x => ⟨(fun z => nomatch z), (fun z => nomatch z)⟩, Nat.le_refl _, ?_⟩
          have here2 : ((s.heap.push (freshS led)).push { cls := .type "list_iterator", data := .fields #[.ref l, .int 0 0] }).get? s.heap.objs.size = some (freshS led) := Heap.get?_push_of_some _ here
          exact ⟨freshS led, #[], 0, _, here2, ⟨rfl, rfl, rfl⟩, rfl, fun e he => by simp at he, fun k => by cases k <;> simp [keyIn], by decide, by rfl, rfl⟩
        · rintro ⟨h', g2, d2, tk2, os2⟩ hm hT
          obtain rfl : g2 = s.gens := hm.gens
          obtain rfl : d2 = s.drawn := hm.drawn
          obtain rfl : os2 = s.os := hm.os
          refine wpAny_pure (wpAny_pure ⟨rfl, h', tk2, rfl, hT, fun b o e => ?_⟩)
          have ltb : b < s.heap.objs.size := Heap.lt_size e
          refine hm.heap b o ?_ (Heap.get?_push_of_some _ (Heap.get?_push_of_some _ e))
          rw [zsz, List.mem_cons, List.mem_cons, List.mem_nil_iff, or_false]
          exact fun z => z.elim (Nat.ne_of_lt ltb) (Nat.ne_of_lt (Nat.lt_succ_of_lt ltb))
      · cases r2 with
        | error e => exact hr2
        | ok fl2 =>
          cases fl2 with
          | ret r =>
            obtain ⟨rfl, h', tk, rfl, hT, hk⟩ := hr2
            repeat (any_goals first | assumption | wp_step)
            exact h _ _ hT hk
          | _ => exact hr2.elim
    | _ => exact hr.elim
end
section
variable {X : Cx}
/-- set(xs) of a list of texts: as many as are unlike -/
def rSetTx (K : PySem.W.Frag) (P : Program) (w : World) : List V → Hp → VK → Prop := fun vs H Q => ∃ (l : Addr) (xs : List Str), vs = [.ref l] ∧ SqL K H l (xs.map V.str) ∧ xs.length < 1000 ∧
  ∀ p ds, H p = none → ds.Nodup → (∀ x, x ∈ ds ↔ x ∈ xs) → Q (.ref p) (upd H p (SetK P w p (keyIn ds) ds.length))
theorem cr_setTx (hc : X.calm = true) : CallR X (.type "set") (rSetTx X.K X.prog X.w) := by
  intro pins s σ H vs us Q I r h
  obtain ⟨l, xs, rfl, hs, few, q⟩ := h
  obtain ⟨its, rv, hl, _⟩ := I.list hs
  rw [Vals.ref1 r]
  have hlen : its.length = xs.length := by rw [← rv.length, List.length_map]
  have lt : l < s.heap.objs.size := hl.lt
  refine call_set_tx xs (fun B hB i hi => ⟨_, _, Walks.list (hB.trans (I.ok.hd hc)) i l (by rw [hi]; exact Nat.ne_of_lt (Nat.lt_succ_of_lt lt)) its.toArray, (fun z => by rw [hi, List.mem_cons, List.mem_singleton] at z; exact z.elim (fun e => absurd e (Nat.ne_of_lt (Nat.lt_succ_self _))) fun e => absurd e (Nat.ne_of_gt lt)), fun h' _ it ls => ⟨it, ls⟩⟩) hl.isList (fun i v hi => ?_) (by rw [List.size_toArray]; exact hlen) (by unfold scanBound; omega) fun h' tk hT hk => ?_
  · obtain ⟨x, hx, rx⟩ := vals_get rv (show its[i]? = some v by rw [← List.getElem?_toArray]; exact hi)
    obtain ⟨y, hy, rfl⟩ := map_str_get hx
    obtain ⟨t, rfl⟩ := rx
    exact ⟨y, t, hy, rfl⟩
  · obtain ⟨ds, h1, h2, _, h4⟩ := hT
    exact ⟨.ref _, upd H s.heap.objs.size (SetK X.prog X.w s.heap.objs.size (keyIn ds) ds.length), I.laid hk (Nat.le_refl _) (setK_new h4), rfl, q _ ds (I.hok.fresh (Nat.le_refl _)) h1 h2⟩
/-- len of such a set -/
def rLenTx (P : Program) (w : World) : List V → Hp → VK → Prop := fun vs H Q => ∃ (a : Addr) (S : Key → Bool) (n : Nat), vs = [.ref a] ∧ H a = some (SetK P w a S n) ∧ n < 1000 ∧ Q (.int n) H
theorem cr_lenTx : CallR X (.builtin "len") (rLenTx X.prog X.w) := by
  intro pins s σ H vs us Q I r h
  obtain ⟨a, S, n, rfl, ha, few, q⟩ := h
  rw [Vals.ref1 r]
  obtain ⟨o, es, ep, t, ho, hex, hd, _, _, _, hf, hn⟩ := setK_get I ha
  exact call_len_set ho hex hd hf (by rw [hn]; omega) ⟨.int n, H, I.tok _, ⟨_, by rw [hn]⟩, q⟩
end
end UP
/-! own layer: dicts by names, what holds of each entry; dict comprehensions walked; the pure side of shelves -/
namespace UT
open PySem L2 UW UP
/-- a dict by names: R of each name's value -/
inductive Tab {α : Type} (R : V → Str → α → Prop) : List (Key × V) → List (Str × α) → Prop
  | nil : Tab R [] []
  | cons {kvs : List (Key × V)} {us : List (Str × α)} {w : Str} {v : V} {u : α} (e : R v w u) (h : Tab R kvs us) : Tab R ((Sum.inr w, v) :: kvs) ((w, u) :: us)
section
variable {α : Type} {R R' : V → Str → α → Prop} {kvs kvs' : List (Key × V)} {us us' : List (Str × α)}
theorem Tab.imp (h : Tab R kvs us) (f : ∀ v w u, R v w u → R' v w u) : Tab R' kvs us := by
  induction h with
  | nil => exact .nil
  | cons e _ ih => exact .cons (f _ _ _ e) ih
theorem Tab.app (h : Tab R kvs us) (g : Tab R kvs' us') : Tab R (kvs ++ kvs') (us ++ us') := by
  induction h with
  | nil => exact g
  | cons e _ ih => exact .cons e ih
theorem Tab.len (h : Tab R kvs us) : kvs.length = us.length := by
  induction h with
  | nil => rfl
  | cons _ _ ih => rw [List.length_cons, List.length_cons, ih]
theorem Tab.keys (h : Tab R kvs us) : kvs.map (·.1) = (us.map (·.1)).map Sum.inr := by
  induction h with
  | nil => rfl
  | cons _ _ ih => rw [List.map_cons, List.map_cons, List.map_cons, ih]
theorem Tab.free (h : Tab R kvs us) {w : Str} (hw : w ∉ us.map (·.1)) : valV kvs (Sum.inr w : Key) = none := by
  induction h with
  | nil => rfl
  | cons _ _ ih =>
    rw [valV_neg (fun z => hw (by rw [List.map_cons]; cases z; exact List.mem_cons_self ..))]
    exact ih fun z => hw (List.mem_cons_of_mem _ z)
theorem Tab.get (h : Tab R kvs us) (hn : (us.map (·.1)).Nodup) : ∀ p ∈ us, ∃ v, valV kvs (Sum.inr p.1 : Key) = some v ∧ R v p.1 p.2 := by
  induction h with
  | nil => intro p hp; cases hp
  | @cons _ us w v u e _ ih =>
    intro p hp
    obtain ⟨h1, h2⟩ := List.nodup_cons.mp hn
    rcases List.mem_cons.mp hp with rfl | hp'
    · exact ⟨v, valV_pos rfl, e⟩
    · obtain ⟨v', hv, r⟩ := ih h2 p hp'
      refine ⟨v', ?_, r⟩
      rw [valV_neg (fun z => h1 (List.mem_map.mpr ⟨p, hp', (Sum.inr.inj z).symm⟩))]
      exact hv
theorem Tab.at (h : Tab R kvs us) {i : Nat} {k : Key} {v : V} (e : kvs[i]? = some (k, v)) : ∃ w u, k = Sum.inr w ∧ us[i]? = some (w, u) ∧ R v w u := by
  induction h generalizing i with
  | nil => simp at e
  | @cons _ _ w v' u r _ ih =>
    cases i with
    | zero =>
      cases e
      exact ⟨w, u, rfl, rfl, r⟩
    | succ i => exact ih e
/-- one name's facts made others -/
def setU (us : List (Str × α)) (w : Str) (u : α) : List (Str × α) := us.map fun p => if p.1 = w then (w, u) else p
theorem setU_names (us : List (Str × α)) (w : Str) (u : α) : (setU us w u).map (·.1) = us.map (·.1) := by
  unfold setU
  rw [List.map_map]
  refine List.map_congr_left fun p _ => ?_
  show (if p.1 = w then (w, u) else p).1 = p.1
  by_cases c : p.1 = w
  · rw [if_pos c, c]
  · rw [if_neg c]
theorem Tab.put (h : Tab R kvs us) {w : Str} {v : V} {u : α} (hw : w ∈ us.map (·.1)) (r : R v w u) : Tab R (putK kvs (Sum.inr w) v) (setU us w u) := by
  have a : (kvs.any fun kv => decide (kv.1 = (Sum.inr w : Key))) = true := by
    have : (Sum.inr w : Key) ∈ kvs.map (·.1) := by
      rw [h.keys]
      exact List.mem_map.mpr ⟨w, hw, rfl⟩
    obtain ⟨p, hp, e⟩ := List.mem_map.mp this
    exact List.any_eq_true.mpr ⟨p, hp, decide_eq_true e⟩
  unfold putK
  rw [if_pos a]
  clear a hw
  unfold setU
  induction h with
  | nil => exact .nil
  | @cons _ _ w' v' u' e _ ih =>
    rw [List.map_cons, List.map_cons]
    by_cases c : w' = w
    · subst c
      rw [if_pos rfl, if_pos rfl]
      exact .cons r ih
    · rw [if_neg (fun z => c (by cases z; rfl)), if_neg c]
      exact .cons e ih
end
/-! ### dict comprehensions, walked -/
theorem dc_it {J : It} {n : Nat} {G : Hp → Prop} {Y : Nat → Hp → V → Hp → Prop} (w : Walk J n G Y) {g : TG} {tt : TT} {tk tv : TE} {vs : List Nat} {σ : L2.St} {H1 : Hp} {D : Addr} {Qd : Hp → Prop} (Pv : Nat → Hp → Prop) (h0 : Pv 0 (upd H1 D (.dK []))) (hG : ∀ i H, i ≤ n → Pv i H → G H)
    (hs : ∀ i x H H', i < n → Pv i H → Y i H x H' → g x (wipe σ vs) H' fun σ2 H2 => wipe σ2 vs = wipe σ vs ∧ tt σ2 H2 fun b H3 =>
      if b = true then tk σ2 H3 fun y H4 => tv σ2 H4 fun z H5 => ∃ kvs k, y = kV k ∧ H5 D = some (.dK kvs) ∧ kvs.length < sizeLine ∧ Pv (i + 1) (upd H5 D (.dK (putK kvs k z))) else Pv (i + 1) H3)
    (hd : ∀ H, Pv n H → Qd H) :
    ∃ W : Nat → Nat → Hp → Prop, (∃ m, W 0 m (upd H1 D (.dK []))) ∧ ∀ i m H, W i m H →
      (J.stop i H ∧ Qd H) ∨ (J.go i H ∧ ∃ Nx : Hp → Prop, (∀ H', Nx H' → ∃ m', m' < m ∧ W (i + 1) m' H') ∧ ∀ x H', J.yld i H x H' → g x (wipe σ vs) H' fun σ2 H2 => wipe σ2 vs = wipe σ vs ∧ tt σ2 H2 fun b H3 =>
        if b = true then tk σ2 H3 fun y H4 => tv σ2 H4 fun z H5 => ∃ kvs k, y = kV k ∧ H5 D = some (.dK kvs) ∧ kvs.length < sizeLine ∧ Nx (upd H5 D (.dK (putK kvs k z))) else Nx H3) := by
  refine ⟨fun i m H => i ≤ n ∧ m = n - i ∧ Pv i H, ⟨n, Nat.zero_le _, rfl, h0⟩, fun i m H ⟨hi, e, p⟩ => ?_⟩
  subst e
  have gH := hG i H hi p
  rcases Nat.lt_or_eq_of_le hi with lt | e
  · exact .inr ⟨w.goes i H lt gH, Pv (i + 1), fun H' p' => ⟨n - (i + 1), by omega, lt, rfl, p'⟩, fun x H' y => hs i x H H' lt p (w.yields i H x H' lt gH y)⟩
  · subst e
    exact .inl ⟨w.stops H gH, hd H p⟩
theorem at5 {α : Type} {a b c d e f : α} {r : List α} : atI (a :: b :: c :: d :: e :: f :: r) 5 = some f := atI_nat (j := 5) rfl
theorem at6 {α : Type} {a b c d e f g : α} {r : List α} : atI (a :: b :: c :: d :: e :: f :: g :: r) 6 = some g := atI_nat (j := 6) rfl
/-! ### the pure side -/
/-- the facts of a name -/
def fu (us : List (Str × UF)) (w : Str) : Option UF := (us.find? fun p => decide (p.1 = w)).map (·.2)
theorem fu_some {us : List (Str × UF)} (hn : (us.map (·.1)).Nodup) {p : Str × UF} (hp : p ∈ us) : fu us p.1 = some p.2 := by
  unfold fu
  induction us with
  | nil => cases hp
  | cons q us ih =>
    obtain ⟨h1, h2⟩ := List.nodup_cons.mp hn
    rcases List.mem_cons.mp hp with rfl | hp
    · rw [List.find?_cons_of_pos (by exact decide_eq_true rfl)]
      rfl
    · rw [List.find?_cons_of_neg (by exact fun z => h1 (List.mem_map.mpr ⟨p, hp, (of_decide_eq_true z).symm⟩))]
      exact ih h2 hp
theorem fu_of {us : List (Str × UF)} {w : Str} (hw : w ∈ us.map (·.1)) (hn : (us.map (·.1)).Nodup) : ∃ u, fu us w = some u ∧ (w, u) ∈ us := by
  obtain ⟨p, hp, rfl⟩ := List.mem_map.mp hw
  exact ⟨p.2, fu_some hn hp, hp⟩
/-- o stands in the needs or the after of w, or opens it -/
def waitsB (us : List (Str × UF)) (w o : Str) : Bool := match fu us w, fu us o with
  | some u, some v => decide (o ∈ u.needs) || (decide (o ∈ u.after) || decide (v.opens = some w))
  | _, _ => false
/-- for whom w waits, rising -/
def wt (us : List (Str × UF)) (w : Str) : List Str := (srt (us.map (·.1))).filter (waitsB us w)
theorem srt_filter (p : Str → Bool) (l : List Str) : srt (l.filter p) = (srt l).filter p :=
  (srt_uniq ((srt_perm l).filter p) ((srt_pw l).filter p)).symm
theorem wt_mem {us : List (Str × UF)} {w o : Str} : o ∈ wt us w ↔ o ∈ us.map (·.1) ∧ waitsB us w o = true := by
  unfold wt
  rw [List.mem_filter, srt_mem]
theorem waits_self {us : List (Str × UF)} (hn : (us.map (·.1)).Nodup) (h : ∀ p ∈ us, p.1 ∉ p.2.needs ∧ p.1 ∉ p.2.after ∧ p.2.opens ≠ some p.1) (w : Str) : w ∉ wt us w := fun hw => by
  obtain ⟨h1, h2⟩ := wt_mem.mp hw
  obtain ⟨u, hu, hm⟩ := fu_of h1 hn
  obtain ⟨a, b, c⟩ := h _ hm
  unfold waitsB at h2
  rw [hu] at h2
  simp only [decide_eq_false a, decide_eq_false b, decide_eq_false c, Bool.or_self] at h2
  cases h2
/-! ### rings and orders, for any relation -/
section
variable (W : Str → List Str)
/-- some of the names wait for one another without end -/
def Knotted (ns : List Str) : Prop := ∃ S : List Str, S ≠ [] ∧ (∀ n ∈ S, n ∈ ns) ∧ ∀ n ∈ S, ∃ o ∈ W n, o ∈ S
structure FreeO (ns order : List Str) : Prop where
  nd : order.Nodup
  sub : ∀ n ∈ order, n ∈ ns
  pre : ∀ i n, order[i]? = some n → ∀ o ∈ W n, o ∈ ns → o ∈ order.take i
structure IsRing (ns r : List Str) : Prop where
  two : 2 ≤ r.length
  nd : r.Nodup
  sub : ∀ n ∈ r, n ∈ ns
  step : ∀ i n, r[i]? = some n → ∃ o, r[(i + 1) % r.length]? = some o ∧ o ∈ W n
variable {W}
theorem FreeO.nil (ns : List Str) : FreeO W ns [] := ⟨List.nodup_nil, (fun n h => nomatch h), fun i n h => by simp at h⟩
theorem FreeO.snoc {ns order : List Str} (f : FreeO W ns order) {n : Str} (hn : n ∈ ns) (h : n ∉ order) (hw : ∀ o ∈ W n, o ∈ ns → o ∈ order) : FreeO W ns (order ++ [n]) := by
  refine ⟨?_, fun x hx => ?_, fun i x hx o ho hs => ?_⟩
  · rw [List.nodup_append]
    exact ⟨f.nd, List.nodup_cons.mpr ⟨by simp, List.nodup_nil⟩, fun a ha b hb e => h (by rw [← List.mem_singleton.mp hb, ← e]; exact ha)⟩
  · rcases List.mem_append.mp hx with hx | hx
    · exact f.sub x hx
    · rw [List.mem_singleton.mp hx]
      exact hn
  · rcases Nat.lt_or_ge i order.length with c | c
    · rw [List.getElem?_append_left c] at hx
      rw [List.take_append_of_le_length (Nat.le_of_lt c)]
      exact f.pre i x hx o ho hs
    · rw [List.getElem?_append_right c] at hx
      have ei : i - order.length = 0 := by
        rcases Nat.eq_zero_or_pos (i - order.length) with z | z
        · exact z
        · rw [List.getElem?_eq_none (by simp; omega)] at hx
          cases hx
      rw [ei] at hx
      cases hx
      rw [show i = order.length by omega, List.take_left]
      exact hw o ho hs
/-- what stands in such an order is in no knot -/
theorem FreeO.free {ns order : List Str} (f : FreeO W ns order) {S : List Str} (hs : ∀ n ∈ S, n ∈ ns) (hS : ∀ n ∈ S, ∃ o ∈ W n, o ∈ S) : ∀ (k : Nat) (i : Nat), i < k → ∀ n, order[i]? = some n → n ∉ S := by
  intro k
  induction k with
  | zero => intro i hi; exact absurd hi (Nat.not_lt_zero _)
  | succ k ih =>
    intro i hi n hn hm
    obtain ⟨o, ho, hoS⟩ := hS n hm
    have ht := f.pre i n hn o ho (hs o hoS)
    rw [List.mem_take_iff_getElem] at ht
    obtain ⟨j, hj, e⟩ := ht
    refine ih j (by omega) o ?_ hoS
    rw [← e]
    exact List.getElem?_eq_getElem (by omega)
theorem FreeO.no {ns order : List Str} (f : FreeO W ns order) (h : ∀ n ∈ ns, n ∈ order) : ¬ Knotted W ns := fun ⟨S, hne, hs, hS⟩ => by
  obtain ⟨n, hn⟩ := List.exists_mem_of_ne_nil S hne
  obtain ⟨i, hi, e⟩ := List.getElem_of_mem (h n (hs n hn))
  exact f.free hs hS (i + 1) i (Nat.lt_succ_self _) n (by rw [List.getElem?_eq_getElem hi, e]) hn
/-- one step of the law's own removal -/
def rstep (S : List Str) : List Str := S.filter fun n => (W n).any fun o => decide (o ∈ S)
def rsteps (W : Str → List Str) : Nat → List Str → List Str
  | 0, S => S
  | k + 1, S => rstep (W := W) (rsteps W k S)
theorem rsteps_sub {ns : List Str} : ∀ k, ∀ n ∈ rsteps W k ns, n ∈ ns
  | 0, n, h => h
  | k + 1, n, h => rsteps_sub k n (List.mem_filter.mp h).1
theorem rsteps_keep {ns S : List Str} (hs : ∀ n ∈ S, n ∈ ns) (hS : ∀ n ∈ S, ∃ o ∈ W n, o ∈ S) : ∀ k, ∀ n ∈ S, n ∈ rsteps W k ns
  | 0, n, h => hs n h
  | k + 1, n, h => by
    obtain ⟨o, ho, hoS⟩ := hS n h
    exact List.mem_filter.mpr ⟨rsteps_keep hs hS k n h, List.any_eq_true.mpr ⟨o, ho, decide_eq_true (rsteps_keep hs hS k o hoS)⟩⟩
theorem rsteps_len {ns : List Str} : ∀ k, rstep (W := W) (rsteps W k ns) = rsteps W k ns ∨ (rsteps W k ns).length + k ≤ ns.length
  | 0 => .inr (Nat.le_refl _)
  | k + 1 => by
    rcases rsteps_len (ns := ns) k with e | e
    · refine .inl ?_
      show rstep (W := W) (rstep (W := W) (rsteps W k ns)) = rstep (W := W) (rsteps W k ns)
      rw [e, e]
    · by_cases c : (rsteps W (k + 1) ns).length < (rsteps W k ns).length
      · exact .inr (by omega)
      · refine .inl ?_
        have l : (rstep (W := W) (rsteps W k ns)).length = (rsteps W k ns).length := by
          have := List.length_filter_le (fun n => (W n).any fun o => decide (o ∈ rsteps W k ns)) (rsteps W k ns)
          have c' : ¬ (rstep (W := W) (rsteps W k ns)).length < (rsteps W k ns).length := c
          unfold rstep at c' ⊢
          omega
        have e2 : rstep (W := W) (rsteps W k ns) = rsteps W k ns := List.filter_eq_self.mpr (List.length_filter_eq_length_iff.mp l)
        show rstep (W := W) (rstep (W := W) (rsteps W k ns)) = rstep (W := W) (rsteps W k ns)
        rw [e2, e2]
theorem rsteps_knot {ns : List Str} : rsteps W ns.length ns = [] ↔ ¬ Knotted W ns := by
  refine ⟨fun e ⟨S, hne, hs, hS⟩ => ?_, fun h => ?_⟩
  · obtain ⟨n, hn⟩ := List.exists_mem_of_ne_nil S hne
    have := rsteps_keep hs hS ns.length n hn
    rw [e] at this
    cases this
  · rcases rsteps_len (W := W) (ns := ns) ns.length with e | e
    · rcases Classical.em (rsteps W ns.length ns = []) with c | c
      · exact c
      · refine absurd ⟨_, c, fun n hn => rsteps_sub _ n hn, fun n hn => ?_⟩ h
        rw [← e] at hn
        obtain ⟨o, ho, z⟩ := List.any_eq_true.mp (List.mem_filter.mp hn).2
        exact ⟨o, ho, of_decide_eq_true z⟩
    · exact List.length_eq_zero_iff.mp (by omega)
/-- a trail of those that wait, each for the next -/
structure Trail (W : Str → List Str) (ns t : List Str) (n : Str) : Prop where
  nd : t.Nodup
  sub : ∀ x ∈ t, x ∈ ns
  nx : n ∈ ns
  step : ∀ i x y, t[i]? = some x → (t ++ [n])[i + 1]? = some y → y ∈ W x
theorem Trail.start {ns : List Str} {n : Str} (h : n ∈ ns) : Trail W ns [] n := ⟨List.nodup_nil, (fun x h => nomatch h), h, fun i x y h => by simp at h⟩
theorem Trail.more {ns t : List Str} {n m : Str} (h : Trail W ns t n) (hn : n ∉ t) (hm : m ∈ ns) (hw : m ∈ W n) : Trail W ns (t ++ [n]) m := by
  refine ⟨?_, fun x hx => ?_, hm, fun i x y hx hy => ?_⟩
  · rw [List.nodup_append]
    exact ⟨h.nd, List.nodup_cons.mpr ⟨by simp, List.nodup_nil⟩, fun a ha b hb e => hn (by rw [← List.mem_singleton.mp hb, ← e]; exact ha)⟩
  · rcases List.mem_append.mp hx with hx | hx
    · exact h.sub x hx
    · rw [List.mem_singleton.mp hx]
      exact h.nx
  · rcases Nat.lt_or_ge i t.length with c | c
    · rw [List.getElem?_append_left c] at hx
      rw [List.getElem?_append_left (by rw [List.length_append]; show i + 1 < t.length + 1; omega)] at hy
      exact h.step i x y hx hy
    · have hi : i < (t ++ [n]).length := (List.getElem?_eq_some_iff.mp hx).1
      rw [List.length_append] at hi
      have ei : i = t.length := by
        have : i < t.length + 1 := hi
        omega
      subst ei
      rw [List.getElem?_append_right (Nat.le_refl _), Nat.sub_self] at hx
      cases hx
      rw [List.getElem?_append_right (by rw [List.length_append]; exact Nat.le_refl _), List.length_append, show t.length + 1 - (t.length + [n].length) = 0 from Nat.sub_self _] at hy
      cases hy
      exact hw
theorem Trail.ring {ns t : List Str} {n : Str} (h : Trail W ns t n) {j : Nat} (hj : t[j]? = some n) (self : n ∉ W n) : IsRing W ns (t.drop j) := by
  have hlt : j < t.length := (List.getElem?_eq_some_iff.mp hj).1
  have key : ∀ i x, (t.drop j)[i]? = some x → ∃ o, (t.drop j)[(i + 1) % (t.drop j).length]? = some o ∧ o ∈ W x := fun i x hx => by
    rw [List.getElem?_drop] at hx
    have hi : j + i < t.length := (List.getElem?_eq_some_iff.mp hx).1
    rw [List.length_drop]
    by_cases c : j + i + 1 < t.length
    · rw [Nat.mod_eq_of_lt (by omega)]
      refine ⟨t[j + i + 1], ?_, h.step (j + i) x _ hx ?_⟩
      · rw [List.getElem?_drop, ← Nat.add_assoc]
        exact List.getElem?_eq_getElem c
      · rw [List.getElem?_append_left c]
        exact List.getElem?_eq_getElem c
    · have e : i + 1 = t.length - j := by omega
      rw [e, Nat.mod_self]
      refine ⟨n, ?_, h.step (j + i) x n hx ?_⟩
      · rw [List.getElem?_drop]
        exact hj
      · rw [show j + i + 1 = t.length by omega, List.getElem?_append_right (Nat.le_refl _), Nat.sub_self]
        rfl
  refine ⟨?_, List.Nodup.sublist (List.drop_sublist ..) h.nd, fun x hx => h.sub x (List.mem_of_mem_drop hx), key⟩
  rcases Nat.lt_or_ge 1 (t.drop j).length with c | c
  · exact c
  · have l : (t.drop j).length = 1 := by
      rw [List.length_drop] at c ⊢
      omega
    obtain ⟨o, ho, hw⟩ := key 0 n (by rw [List.getElem?_drop]; exact hj)
    rw [l, Nat.mod_self, List.getElem?_drop] at ho
    have : o = n := Option.some.inj (ho.symm.trans hj)
    rw [this] at hw
    exact absurd hw self
end
end UT
/-! own layer: dicts whose keys are tuples: comprehensions (after the library's rule for plain keys), sorted -/
namespace UD
open PySem PySem.Spec PyProof.Rows L2 UW UP
section
variable {X : Cx}
/-- d[k] = v, k a tuple, as a comprehension does it -/
theorem put_tup {pins : List (Addr × Obj)} {σ : L2.St} {H : Hp} {s : Shared} {E : Value → Shared → Prop} {D b : Addr} {kvs : List (List Key × V)} {k : List Key} {v : V} {r : Value} {Q : Unit → Shared → Prop}
    (hu : X.A.units + 1 < cLine) (I : L2.Inv X pins σ H s) (hD : H D = some (.dT kvs)) (hb : H b = some (.tup (k.map kV))) (hz : kvs.length < sizeLine) (rv : RelV v r)
    (h : ∀ s', L2.Inv X pins σ (upd H D (.dT (putK kvs k v))) s' → Q () s') : wpAny (model X.prog X.w) X.A (dictSet D (.ref b) r) Q E s := by
  obtain ⟨z, nsys, xs, rel, dd⟩ := dt_of I.hok hD
  have few : (putK kvs k v).length ≤ sizeLine := by
    have := length_putK kvs k v
    omega
  refine wpAny_dictSet_heap (hsz := by rw [← Paired.length rel]; exact z) (show X.A.units < cLine by omega) (key_of I.hok hb) dd fun h2 dd2 same => h _ ?_
  obtain ⟨o, es, ep, e1, e2, e3, e4, _, e5⟩ := dd2
  refine d_write I (by rw [hD]; exact True.intro) same ⟨o, e1⟩ ⟨few, nsys, _, (rel.put k hb rv).keeps fun c ys ec => ?_, o, es, ep, e1, e2, e3, e4, e5⟩
  rw [upd_ne (ne_of ec hD (fun q => nomatch q))]
  exact ec
/-- {k: v for ..}, the keys tuples: D the new dict -/
def tDt (wi : TI) (g : TG) (tt : TT) (tk tv : TE) (vs : List Nat) : TE := fun σ H Q => wi σ H fun J H1 => ∀ D, H1 D = none → ∃ W : Nat → Nat → Hp → Prop, (∃ m, W 0 m (upd H1 D (.dT []))) ∧ ∀ i m H, W i m H →
  (J.stop i H ∧ Q (.ref D) H) ∨ (J.go i H ∧ ∃ Nx : Hp → Prop, (∀ H', Nx H' → ∃ m', m' < m ∧ W (i + 1) m' H') ∧ ∀ x H', J.yld i H x H' → g x (wipe σ vs) H' fun σ2 H2 => wipe σ2 vs = wipe σ vs ∧ tt σ2 H2 fun c H3 =>
    if c = true then tk σ2 H3 fun y H4 => tv σ2 H4 fun z H5 => ∃ kvs k b, y = .ref b ∧ H5 b = some (.tup (k.map kV)) ∧ H5 D = some (.dT kvs) ∧ kvs.length < sizeLine ∧ Nx (upd H5 D (.dT (putK kvs k z))) else Nx H3)
theorem dt_core {pins : List (Addr × Obj)} {s : Shared} {σ : L2.St} {H : Hp} {Q : VK} {kx vx tg iter : Expr} {ifs : List Expr} {scope : Scope} {own : List (Str × Nat)} {pos pos' : Pos} {wi : TI} {g : TG} {tt : TT} {tk tv : TE} {use : Option (Value → Sem Unit)} {Qf : Value → Shared → Prop}
    (hu : X.A.units + 1 < cLine) (hc : X.calm = true) (hN : X.N.Nodup) (I : L2.Inv X pins σ H s) (hi : PI X tg iter wi) (ok : BlkOk X.N X.env.scope scope own)
    (hg : ∀ s H C cl fp, PG (X.blk s H scope (compEnvC scope cl C X.env) fp) tg g) (ht : ∀ s H C cl fp, PTs (X.blk s H scope (compEnvC scope cl C X.env) fp) ifs tt)
    (hk : ∀ s H C cl fp, PE (X.blk s H scope (compEnvC scope cl C X.env) fp) kx tk) (hv : ∀ s H C cl fp, PE (X.blk s H scope (compEnvC scope cl C X.env) fp) vx tv)
    (hs : ∀ x, foldedSetIterable iter X.env x = pure x) (h : tDt wi g tt tk tv (own.map (·.2)) σ H Q)
    (fin : ∀ D C s' m H', L2.Inv X pins σ H' s' → Q (.ref D) H' → s'.heap.Ns C m → FpOk X pins H' C → compPost (model X.prog X.w) X.A X.xe use Qf (.ref D) C (.ok .next) s') :
    wpAny (model X.prog X.w) X.A (comprehension (.DictComp kx vx [⟨tg, iter, ifs, 0⟩] scope pos) scope X.env pos' newDict false (eval iter X.env) use) Qf X.xe s := by
  have cells : ∀ y ∈ scope.names, y.2 = .free → ∃ c, X.env.cells.lookup y.1 = some c := fun y hy e => (ok.free y hy e).elim (fun q => I.ok.has _ (.inl q)) fun q => I.ok.has _ (.inr q)
  refine wpAny_comprehension_free (use := use) rfl hs (closure_ok cells) ok.kind (fun y hy e => (ok.uniq y hy).trans (congrArg some e)) (thn (hi.run pins s σ H _ I h) fun _ _ q1 => thn q1 fun _ s2 q2 => ?_)
  obtain ⟨it, fp, tn, J, H2, rfl, I2, T, st2, f2, walk⟩ := q2
  refine wpAny_newObj_type (newEnv_comp ?_)
  obtain ⟨D, eD⟩ : ∃ D, s2.heap.objs.size = D := ⟨_, rfl⟩
  have freeD : H2 D = none := I2.hok.fresh (Nat.le_of_eq eD)
  obtain ⟨W, ⟨m0, w0⟩, turn⟩ := walk D freeD
  obtain ⟨z3, e3⟩ : ∃ z3 : Shared, { s2 with heap := s2.heap.push { cls := .type "dict", data := .dict #[] } } = z3 := ⟨_, rfl⟩
  have heap3 : z3.heap = s2.heap.push { cls := .type "dict", data := .dict #[] } := by rw [← e3]
  obtain ⟨H3, eH3⟩ : ∃ H3, upd H2 D (.dT []) = H3 := ⟨_, rfl⟩
  have I3 : L2.Inv X pins σ H3 z3 := by
    rw [← e3, ← eH3]
    refine I2.laid (t' := s2.toks) (fun _ _ e => Heap.get?_push_of_some _ e) (Nat.le_of_eq eD) ?_
    rw [← eD]
    exact dt_empty s2.heap I2.big
  have lt : ∀ c ∈ fp, c < s2.heap.objs.size := fun c hc => let ⟨_, e, _⟩ := T.obj _ _ st2 c hc; Heap.lt_size e
  have f3 : ∀ c ∈ fp, FpOk X pins H3 c ∧ c < z3.heap.objs.size := fun c hc => by
    refine ⟨⟨?_, (f2 c hc).2⟩, ?_⟩
    · rw [← eH3, upd_ne (by rw [← eD]; exact Nat.ne_of_lt (lt c hc))]
      exact (f2 c hc).1
    · rw [heap3, Heap.size_push]
      exact Nat.lt_succ_of_lt (lt c hc)
  have st3 : tn 0 z3.heap := T.keep _ _ _ st2 fun _ _ _ e => by rw [heap3]; exact Heap.get?_push_of_some _ e
  have I4 := block_start I3 ok hN f3
  obtain ⟨cl, ecl⟩ : ∃ cl, cellsFrom (z3.heap.objs.size + 1) scope.names (cloFrom X.env.cells scope.names []) = cl := ⟨_, rfl⟩
  rw [ecl] at I4
  have pg := hg z3 H3 z3.heap.objs.size cl fp
  have pt := ht z3 H3 z3.heap.objs.size cl fp
  have pk := hk z3 H3 z3.heap.objs.size cl fp
  have pv := hv z3 H3 z3.heap.objs.size cl fp
  have free3 : ∀ c ∈ fp, H3 c = none := fun c hc => (f3 c hc).1.1
  rw [eH3] at w0
  rw [e3]
  show codeAny _ _ (.compStart (.DictComp kx vx [⟨tg, iter, ifs, 0⟩] scope pos) 0 (.ref it) (.ref s2.heap.objs.size) (compEnvC scope (cellsFrom (z3.heap.objs.size + 1) scope.names (cloFrom X.env.cells scope.names [])) z3.heap.objs.size X.env)) (compPost (model X.prog X.w) X.A X.xe use Qf (.ref s2.heap.objs.size) z3.heap.objs.size) { z3 with heap := pushCells (z3.heap.push { cls := .type "dict", data := .dict #[] }) scope.names }
  rw [ecl, eD]
  obtain ⟨ce, ece⟩ : ∃ ce, compEnvC scope cl z3.heap.objs.size X.env = ce := ⟨_, rfl⟩
  rw [ece] at I4 pg pt pk pv ⊢
  have loc : ce.locals = z3.heap.objs.size := by rw [← ece]; rfl
  obtain ⟨z4, e4⟩ : ∃ z4 : Shared, { z3 with heap := pushCells (z3.heap.push { cls := .type "dict", data := .dict #[] }) scope.names } = z4 := ⟨_, rfl⟩
  rw [e4] at I4 ⊢
  have st4 : tn 0 z4.heap := T.keep _ _ _ st3 fun _ _ _ e => by rw [← e4]; exact pushCells_keeps _ _ _ _ (Heap.get?_push_of_some _ e)
  have fpok : ∀ {τ : L2.St} {G : Hp} {t : Shared}, L2.Inv (X.blk z3 H3 scope ce fp) [] τ G t → (∀ c ∈ fp, G c = none) → ∀ c ∈ fp, FpOk (X.blk z3 H3 scope ce fp) [] G c := fun {τ G t} J hn c hc =>
    ⟨hn c hc, (J.ok.exf c hc).1, J.ok.exfs c hc, .inl hc, fun x a e => (J.ok.exf c hc).2 x a e, fun p hp => absurd (show p ∈ ([] : List (Addr × Obj)) ++ [] from hp) (by simp)⟩
  have loop : codeAny (model X.prog X.w) X.A (.compLoop (.DictComp kx vx [⟨tg, iter, ifs, 0⟩] scope pos) 0 (.ref it) (.ref D) ce) (compPost (model X.prog X.w) X.A X.xe use Qf (.ref D) z3.heap.objs.size) z4 := by
    refine compLoop_anyD (fun n t => ∃ i G, L2.Inv (X.blk z3 H3 scope ce fp) [] (wipe σ (own.map (·.2))) G t ∧ tn i t.heap ∧ (∀ c ∈ fp, G c = none) ∧ W i n G) ?_ m0 ⟨0, H3, I4, st4, free3, w0⟩
    rintro n t5 ⟨i, G5, J5, k5, n5, w5⟩
    rcases turn i n G5 w5 with ⟨stop, q⟩ | ⟨go, Nx, more, step⟩
    · refine thnF (T.done (X.blk z3 H3 scope ce fp) rfl rfl rfl hc i [] t5 _ G5 (fun _ _ => False) J5 (fpok J5 n5) k5 stop) fun r t6 ⟨er, J6⟩ => ?_
      subst er
      have back : L2.Inv X pins σ G5 t6 := I3.call' (ch := fp) J6.os J6.base J6.hok J6.bare fun c hc => let f := (f3 c hc).1.2; ⟨f.2.2.1, f.1, f.2.2.2.1, f.2.2.2.2⟩
      obtain ⟨m, ns, _⟩ := J6.loc
      have ns2 : t6.heap.Ns z3.heap.objs.size m := loc ▸ ns
      have gone : G5 z3.heap.objs.size = none := loc ▸ J6.free
      exact fin D z3.heap.objs.size t6 m G5 back q ns2 (I3.fpOk (Nat.le_refl _) gone)
    · refine thnF (T.item (X.blk z3 H3 scope ce fp) rfl rfl rfl hc i [] t5 _ G5 (fun _ _ => False) J5 (fpok J5 n5) k5 go) fun r t6 ⟨u, er, q6⟩ => ?_
      subst er
      refine thnF q6 fun _ t7 ⟨x, G7, J7, r7, y7, k7, n7⟩ => ?_
      refine thnF (pg.run _ t7 _ G7 x u _ (J7.pinned (fpok J7 n7) (T.obj _ _ k7)) r7 (step x G7 y7)) fun _ t8 ⟨τ, G8, J8, hw, q8⟩ => ?_
      refine thnF (pt.run _ t8 τ G8 _ J8 q8) fun c t9 ⟨G9, J9, q9⟩ => ?_
      have close : ∀ {t : Shared} {G : Hp}, L2.Inv (X.blk z3 H3 scope ce fp) ([] ++ pinsAt fp t7.heap) τ G t → Nx G → ∃ m, m < n ∧ ∃ i G, L2.Inv (X.blk z3 H3 scope ce fp) [] (wipe σ (own.map (·.2))) G t ∧ tn i t.heap ∧ (∀ c ∈ fp, G c = none) ∧ W i m G := fun {t G} J nx => by
        obtain ⟨m', lt', w'⟩ := more G nx
        have pin : ∀ c ∈ fp, ∀ o, t7.heap.get? c = some o → t.heap.get? c = some o ∧ G c = none := fun c hc o e =>
          let p := J.pin (c, o) (List.mem_append_right _ (List.mem_append_right _ (mem_pinsAt hc e)))
          ⟨p.1, p.2.1⟩
        refine ⟨m', lt', i + 1, G, (J.unpinned (pins := [])).weak (by rw [← hw, wipe_length]) (fun j v e => ?_), T.keep _ _ _ k7 fun c hc o e => (pin c hc o e).1, fun c hc => ?_, w'⟩
        · rw [← hw] at e
          exact (wipe_some e).1
        · obtain ⟨o, e, _⟩ := T.obj _ _ k7 c hc
          exact (pin c hc o e).2
      cases c with
      | false =>
        simp only [Bool.false_eq_true, if_false] at q9 ⊢
        exact close J9 q9
      | true =>
        simp only [if_true] at q9 ⊢
        refine thnF (pk.run _ t9 τ G9 _ J9 q9) fun ku t10 ⟨yk, G10, J10, r10, q10⟩ => ?_
        refine thnF (pv.run _ t10 τ G10 _ J10 q10) fun vu t11 ⟨yv, G11, J11, r11, kvs, k, b, ek, hb, hD, few, nx⟩ => ?_
        subst ek
        cases (show ku = Value.ref b from r10)
        exact put_tup (X := X.blk z3 H3 scope ce fp) hu J11 hD hb few r11 fun t12 J12 => close J12 nx
  exact codeAny_compStart_dict loop (T.self X.A 0 _ _ _ st4 loop)
/-- y = {k: v for ..}, the keys tuples, y a plain local -/
theorem ps_setDt {i : Nat} {y : Str} {py pos spos : Pos} {kx vx tg iter : Expr} {ifs : List Expr} {scope : Scope} {own : List (Str × Nat)} {wi : TI} {g : TG} {tt : TT} {tk tv : TE}
    (hu : X.A.units + 1 < cLine) (hc : X.calm = true) (hN : X.N.Nodup) (hy : X.N[i]? = some y) (hyl : X.env.scope.names.lookup y = some .local) (hsw : swapsWith (.DictComp kx vx [⟨tg, iter, ifs, 0⟩] scope pos) (some (.Name y py)) spos.line X.env = pure true)
    (hi : PI X tg iter wi) (ok : BlkOk X.N X.env.scope scope own)
    (hg : ∀ s H C cl fp, PG (X.blk s H scope (compEnvC scope cl C X.env) fp) tg g) (ht : ∀ s H C cl fp, PTs (X.blk s H scope (compEnvC scope cl C X.env) fp) ifs tt)
    (hk : ∀ s H C cl fp, PE (X.blk s H scope (compEnvC scope cl C X.env) fp) kx tk) (hv : ∀ s H C cl fp, PE (X.blk s H scope (compEnvC scope cl C X.env) fp) vx tv)
    (hs : ∀ x, foldedSetIterable iter X.env x = pure x := by intro _; rfl) :
    PS X (.Assign [.Name y py] (.DictComp kx vx [⟨tg, iter, ifs, 0⟩] scope pos) spos) (tAsg (tDt wi g tt tk tv (own.map (·.2))) (gName i)) := by
  refine ⟨fun pins s σ H D I h => ?_⟩
  rw [exec_Assign_Name_used _ _ _ _ hsw]
  refine wpAny_bind (wpAny_standAt (wpAny_bind (wpAny_bind (m := comprehension _ _ _ _ newDict false (eval iter X.env) (some (assign (.Name y py) X.env))) (thn ?_ fun _ z q => wpAny_pure (wpAny_pure q)))))
  refine dt_core (Qf := fun _ z => SP X pins D .next z) hu hc hN I hi ok hg ht hk hv hs (Q := fun x H1 => gName i x σ H1 D.nx) h fun L C z m H2 I2 q ns fp => ?_
  show wpAny _ _ (assign (.Name y py) X.env (.ref L)) _ _ _
  refine wpAny_assign_Name (store_ok2 (v := V.ref L) I2 hN hy (.inl hyl) rfl (fun z2 J ⟨a, sb, ha⟩ => ?_) (.inr hyl))
  obtain ⟨f0, f1, f2, f3, f4, f5⟩ := fp
  have ne : C ≠ a := ha.elim (fun e => e ▸ f1) fun e q => f4 y a e q.symm
  exact ⟨m, ns.sameBut sb ne, fun h3 sb3 => ⟨_, H2, J.turned (t' := z2.toks) (fun b o hb e => (sb3.2 b hb).trans e) f0 f1 f3 f4 f5, q⟩⟩
end
end UD

namespace UD
open PySem PySem.Spec PyProof.Rows L2 UW UP
/-! ### the order of pairs of texts -/
def ltP (p q : Str × Str) : Bool := if p.1 = q.1 then ltS p.2 q.2 else ltS p.1 q.1
def leP (p q : Str × Str) : Bool := !ltP q p
theorem ltS_asy {x y : Str} (h : ltS x y = true) : ltS y x = false := by
  cases q : ltS y x
  · rfl
  · have := ltS_tr h q
    rw [ltS_irr] at this
    cases this
theorem leP_iff (p q : Str × Str) : leP p q = true ↔ ltS p.1 q.1 = true ∨ (p.1 = q.1 ∧ leS p.2 q.2 = true) := by
  unfold leP ltP
  by_cases e : q.1 = p.1
  · rw [if_pos e]
    refine ⟨fun h => .inr ⟨e.symm, h⟩, fun h => ?_⟩
    rcases h with h | h
    · rw [e, ltS_irr] at h
      cases h
    · exact h.2
  · rw [if_neg e]
    refine ⟨fun h => .inl (ltS_or ?_ e), fun h => ?_⟩
    · rw [Bool.not_eq_true'] at h
      exact h
    · rcases h with h | h
      · rw [ltS_asy h]
        rfl
      · exact absurd h.1.symm e
theorem leP_tr {p q r : Str × Str} (h : leP p q = true) (g : leP q r = true) : leP p r = true := by
  rw [leP_iff] at *
  rcases h with h | ⟨h, h2⟩
  · rcases g with g | ⟨g, _⟩
    · exact .inl (ltS_tr h g)
    · rw [← g]
      exact .inl h
  · rcases g with g | ⟨g, g2⟩
    · rw [h]
      exact .inl g
    · exact .inr ⟨h.trans g, leS_tr h2 g2⟩
theorem leP_anti {p q : Str × Str} (h : leP p q = true) (g : leP q p = true) : p = q := by
  rw [leP_iff] at *
  rcases h with h | ⟨h, h2⟩
  · rcases g with g | ⟨g, _⟩
    · rw [ltS_asy h] at g
      cases g
    · rw [g, ltS_irr] at h
      cases h
  · rcases g with g | ⟨_, g2⟩
    · rw [h, ltS_irr] at g
      cases g
    · exact Prod.ext h (leS_anti h2 g2)
theorem leP_tot (p q : Str × Str) : (leP p q || leP q p) = true := by
  rw [Bool.or_eq_true, leP_iff, leP_iff]
  by_cases e : p.1 = q.1
  · rcases leS_tot p.2 q.2 with h | h
    · exact .inl (.inr ⟨e, h⟩)
    · exact .inr (.inr ⟨e.symm, h⟩)
  · cases h : ltS p.1 q.1
    · exact .inr (.inl (ltS_or h e))
    · exact .inl (.inl rfl)
/-- sorted(pairs) -/
def srtP (ds : List (Str × Str)) : List (Str × Str) := ds.mergeSort leP
theorem srtP_perm (ds : List (Str × Str)) : (srtP ds).Perm ds := List.mergeSort_perm ..
theorem srtP_pw (ds : List (Str × Str)) : (srtP ds).Pairwise fun x y => leP x y = true := List.pairwise_mergeSort (le := leP) (fun a b c h g => leP_tr h g) leP_tot ds
theorem srtP_uniq {ds es : List (Str × Str)} (p : es.Perm ds) (h : es.Pairwise fun x y => leP x y = true) : es = srtP ds := pw_uniq (fun _ _ a b => leP_anti a b) (p.trans (srtP_perm ds).symm) h (srtP_pw ds)
theorem srtP_congr {ds es : List (Str × Str)} (p : es.Perm ds) : srtP es = srtP ds := srtP_uniq ((srtP_perm es).trans p) (srtP_pw es)
theorem srtP_mem {d : Str × Str} {ds : List (Str × Str)} : d ∈ srtP ds ↔ d ∈ ds := (srtP_perm ds).mem_iff
theorem srtP_len (ds : List (Str × Str)) : (srtP ds).length = ds.length := (srtP_perm ds).length_eq
theorem le_data (a b : Str × Str) : PySem.W.dataLe false enc2 a b = leP a b := by
  show (!PySem.W.dataLt (enc2 b) (enc2 a)) = leP a b
  have e : PySem.W.dataLt (enc2 b) (enc2 a) = PySem.W.DatumOrd.lt b a := PySem.W.DatumOrd.lt_eq b a
  rw [e]
  rfl
/-! ### lists of pairs that stand by themselves -/
inductive PrH (H : Hp) : List V → List (Str × Str) → Prop
  | nil : PrH H [] []
  | cons {t : Addr} {d : Str × Str} {xs : List V} {ds : List (Str × Str)} : H t = some (.tup [.str d.1, .str d.2]) → PrH H xs ds → PrH H (.ref t :: xs) (d :: ds)
section
variable {K : PySem.W.Frag} {H H' : Hp} {xs ys : List V} {ds es : List (Str × Str)}
theorem PrH.prs (h : PrH H xs ds) : Prs K H xs ds := by
  induction h with
  | nil => exact .nil
  | cons a _ ih => exact .cons (SqT.of a) ih
theorem PrH.same (h : PrH H xs ds) (s : Same H H') : PrH H' xs ds := by
  induction h with
  | nil => exact .nil
  | cons a _ ih => exact .cons (s _ _ a) ih
theorem PrH.keep {q : Addr} (h : PrH H xs ds) (k : Kp q H H') (n : NotTup H q) : PrH H' xs ds := by
  induction h with
  | nil => exact .nil
  | cons a _ ih => exact .cons (k _ _ a (n.ne a)) ih
theorem PrH.len (h : PrH H xs ds) : xs.length = ds.length := (h.prs (K := default)).len
theorem PrH.app (h : PrH H xs ds) (g : PrH H ys es) : PrH H (xs ++ ys) (ds ++ es) := by
  induction h with
  | nil => exact g
  | cons a _ ih => exact .cons a ih
theorem PrH.get {i : Nat} {x : V} (h : PrH H xs ds) (e : xs[i]? = some x) : ∃ t d, x = .ref t ∧ ds[i]? = some d ∧ H t = some (.tup [.str d.1, .str d.2]) := by
  induction h generalizing i with
  | nil => simp at e
  | @cons t d _ _ a _ ih =>
    cases i with
    | zero =>
      cases e
      exact ⟨t, d, rfl, rfl, a⟩
    | succ i => exact ih e
def RH (H : Hp) (u : Value) (d : Str × Str) : Prop := ∃ t, u = .ref t ∧ H t = some (.tup [.str d.1, .str d.2])
theorem PrH.each (h : PrH H xs ds) {us : List Value} (r : Vals xs us) : PySem.W.EachIs (RH H) us ds := by
  induction h generalizing us with
  | nil =>
    cases r
    exact .nil
  | cons a _ ih =>
    cases r with
    | cons r1 r2 => exact .cons ⟨_, r1, a⟩ (ih r2)
theorem each_prH {us : List Value} (h : PySem.W.EachIs (RH H) us ds) : ∃ xs, Vals xs us ∧ PrH H xs ds := by
  induction h with
  | nil => exact ⟨[], .nil, .nil⟩
  | cons a _ ih =>
    obtain ⟨xs, r, p⟩ := ih
    obtain ⟨t, rfl, ht⟩ := a
    exact ⟨.ref t :: xs, .cons rfl r, .cons ht p⟩
end
section
variable {X : Cx}
/-- sorted(xs), xs a list of pairs of texts -/
def rSortP (K : PySem.W.Frag) : List V → Hp → VK → Prop := fun vs H Q => ∃ (a : Addr) (xs : List V) (ds : List (Str × Str)), vs = [.ref a] ∧ SqL K H a xs ∧ PrH H xs ds ∧ ds.length ≤ 1000 ∧
  ∀ p ys, H p = none → PrH H ys (srtP ds) → Q (.ref p) (upd H p (.lst ys))
theorem each_reads {pins : List (Addr × Obj)} {σ : L2.St} {H : Hp} {s : Shared} (I : L2.Inv X pins σ H s) {xs : List V} {ds : List (Str × Str)} {us : List Value} (h : PrH H xs ds) (r : Vals xs us) : PySem.W.EachIs (fun v b => ∃ as, PySem.Reads s.heap v (enc2 b) as) us ds := by
  obtain ⟨as, hr⟩ := Dp.readsAll I (ds.map enc2) _ _ (h.prs (K := X.K)).dp r
  exact PySem.W.readsAll_each enc2 hr
theorem sort_eq (ds : List (Str × Str)) : ds.mergeSort (PySem.W.dataLe false enc2) = srtP ds := by
  have : PySem.W.dataLe false enc2 = leP := funext fun a => funext fun b => le_data a b
  rw [this]
  rfl
theorem depth2 (d : Str × Str) : PyData.depth (enc2 d) = 1 := by
  unfold enc2
  simp only [PyData.depth, PyData.depthAll, Nat.max_self]
theorem alike2 (ds : List (Str × Str)) : PySem.W.AllAlike (ds.map enc2) := PySem.W.AllAlike.of fun a b => PySem.W.DatumOrd.alike a b
theorem sortable2 (ds : List (Str × Str)) : PySem.W.Sortable (ds.map enc2) := PySem.W.Sortable.tuples fun b => ⟨_, _, rfl⟩
theorem cr_sortP (hu : X.A.units + 64 < cLine) : CallR X (.builtin "sorted") (rSortP X.K) := by
  intro pins s σ H vs us Q I r h
  obtain ⟨a, xs, ds, rfl, hs, hp, few, q⟩ := h
  obtain ⟨its, rv, hl, _⟩ := I.list hs
  rw [Vals.ref1 r]
  refine PySem.W.sorted_data (R := RH H) (enc := enc2) hl.isList (hp.each rv) (each_reads I hp rv) (alike2 ds) (sortable2 ds) (Nat.le_of_lt (small1000 few)) (fun b _ => by rw [depth2]; omega) fun out hlen ho => ?_
  rw [sort_eq] at ho
  obtain ⟨ys, ry, py⟩ := each_prH ho
  obtain ⟨ep, he⟩ := PyProof.Rows.sortedAll_at s.heap its out.toArray
  refine ⟨.ref _, upd H (s.heap.objs.size + 1) (.lst ys), I.laid (t' := s.toks) (fun _ _ => PyProof.Rows.sortedAll_old) (Nat.le_succ _) ⟨?_, out, ep, ry, he⟩, rfl, q _ ys (I.hok.fresh (Nat.le_succ _)) py⟩
  rw [py.len, srtP_len]
  exact Nat.le_of_lt (small1000 few)
end
end UD

namespace UD
open PySem PySem.Spec PyProof.Rows L2 UW UP
theorem readsAll2 {h : Heap} {l : List Value} {x y : Str} {as : List Addr} (r : PySem.ReadsAll h l [.str x, .str y] as) : as = [] := by
  cases r with
  | cons r5 r6 =>
    cases r5
    cases r6 with
    | cons r7 r8 =>
      cases r7
      cases r8
      rfl
theorem reads2 {h : Heap} {v : Value} {d : Str × Str} {as : List Addr} (r : PySem.Reads h v (enc2 d) as) : as = [] := by
  unfold enc2 at r
  cases r with
  | tuple _ _ _ r4 => exact readsAll2 r4
def key2 (d : Str × Str) : List Key := [Sum.inr d.1, Sum.inr d.2]
theorem keys_prH {H : Hp} : ∀ {kvs : List (List Key × V)} {bs : List Addr} {ds : List (Str × Str)}, IsKeys H kvs bs → kvs.map (·.1) = ds.map key2 → PrH H (bs.map V.ref) ds
  | _, _, [], .nil, _ => .nil
  | _, _, d :: ds, .nil, e => by simp at e
  | _, _, [], .cons _ _, e => by simp at e
  | _, _, d :: ds, .cons h t, e => by
    rw [List.map_cons, List.map_cons] at e
    injection e with e1 e2
    rw [List.map_cons]
    refine .cons ?_ (keys_prH t e2)
    rw [e1] at h
    exact h
section
variable {X : Cx}
/-- sorted(d), the keys of d pairs of texts -/
def rSortDT : List V → Hp → VK → Prop := fun vs H Q => ∃ (a : Addr) (kvs : List (List Key × V)) (ds : List (Str × Str)), vs = [.ref a] ∧ Rd H a (.dT kvs) ∧ kvs.map (·.1) = ds.map key2 ∧ ds.length ≤ 1000 ∧
  ∀ p ys, H p = none → PrH H ys (srtP ds) → Q (.ref p) (upd H p (.lst ys))
theorem cr_sortDT (hc : X.calm = true) (hu : X.A.units + 64 < cLine) : CallR X (.builtin "sorted") rSortDT := by
  intro pins s σ H vs us Q I r h
  obtain ⟨a, kvs, ds, rfl, hd, hkeys, few, q⟩ := h
  rw [Vals.ref1 r]
  obtain ⟨_, nsys, ks, pr, o, es, ep, ho, hx, hdt, he, _⟩ := (show ObjOk X.prog X.w H s.heap a (.dT kvs) from hd.ok I.hok)
  have l1 : es.size = ks.length := size_of_entries he
  have l2 : kvs.length = ks.length := Paired.length pr
  have l3 : kvs.length = ds.length := by
    have := congrArg List.length hkeys
    rw [List.length_map, List.length_map] at this
    exact this
  have room : ds.length ≤ sizeLine := Nat.le_of_lt (small1000 few)
  refine Calls.call_function_entry PyProof.Rows.kind_sorted PyProof.Rows.plain_sorted PyProof.Rows.entry_sorted (PyProof.Rows.args_sorted1 _) ?_
  unfold Builtin.«sorted»
  refine wpAny_bind (m := checkCount "sorted" 1 1 _) (wpAny_pure ?_)
  refine wpAny_bind (PySem.W.kdu_collect (A := X.A.in1) (kdl_raw nsys hx hdt) (I.ok.hd hc) ho (by omega) fun h2 tk acc keep items => ?_)
  have hacc : acc.toList = (ks.map fun x => x.2.1).map Value.ref := by
    have len : acc.toList.length = ks.length := by
      rw [Array.length_toList, items.1]
      exact l1
    rw [List.map_map]
    refine List.ext_getElem? fun j => ?_
    rw [List.getElem?_map]
    rcases Nat.lt_or_ge j ks.length with c | c
    · have hj : acc.toList[j]? = some acc.toList[j] := List.getElem?_eq_getElem (by omega)
      obtain ⟨en, hen, hv⟩ := items.2 j _ (by rw [← Array.getElem?_toList]; exact hj)
      have qe := entry_at he j
      rw [hen, List.getElem?_eq_getElem c] at qe
      rw [hj, hv, List.getElem?_eq_getElem c, Option.some.inj qe]
      rfl
    · rw [List.getElem?_eq_none (by omega), List.getElem?_eq_none c]
      rfl
  have I1 : L2.Inv X pins σ H { s with heap := h2, toks := tk } := I.kept keep
  have pH := keys_prH (isKeys_of pr) hkeys
  have rv : Vals ((ks.map fun x => x.2.1).map V.ref) acc.toList := by
    rw [hacc]
    exact vals_refs _
  have alen : acc.toList.length = ds.length := by rw [← rv.length, pH.len]
  refine wpAny_bind (wpAny_newList ?_ (by rw [alen]; exact room))
  have here : (h2.push (seqObj "list" acc.toList.toArray 0)).get? h2.objs.size = some (seqObj "list" acc.toList.toArray 0) := Heap.get?_push_size _ rfl
  have reads : PySem.W.EachIs (fun v b => ∃ as, PySem.Reads (h2.push (seqObj "list" acc.toList.toArray 0)) v (enc2 b) as ∧ h2.objs.size ∉ as) acc.toList ds :=
    (each_reads I1 pH rv).mono fun v b ⟨as, rd⟩ => ⟨as, PyProof.Rows.Reads.keeps (fun _ _ e => Heap.get?_push_of_some _ e) rd, by rw [reads2 rd]; simp⟩
  refine wpAny_bind (wpAny_holding (PySem.W.list_sort_data (A := X.A.in1) (s := { s with heap := h2.push (seqObj "list" acc.toList.toArray 0), toks := tk }) (R := RH H) (enc := enc2) here (pH.each rv) reads (alike2 ds) (sortable2 ds) room (fun b _ => by rw [depth2]; show X.A.units + 1 + 1 + 1 < cLine; omega) fun out hlen hout => ?_))
  rw [sort_eq] at hout
  obtain ⟨ys, ry, py⟩ := each_prH hout
  obtain ⟨e2, at2⟩ := PyProof.Rows.sortedHeap_at (vs := acc.toList) (out := out.toArray) here
  refine wpAny_pure ⟨_, rfl, .ref h2.objs.size, upd H h2.objs.size (.lst ys), I1.laid (t' := tk) (fun b u e => ?_) (Nat.le_refl _) ⟨?_, out, e2, ry, at2⟩, rfl, q _ ys (I1.hok.fresh (Nat.le_refl _)) py⟩
  · have lt : b < h2.objs.size := Heap.lt_size e
    rw [PyProof.Rows.sortedHeap_old (Nat.ne_of_lt lt) (by rw [size_push']; exact Nat.lt_succ_of_lt lt)]
    exact Heap.get?_push_of_some _ e
  · rw [py.len, srtP_len]
    exact room
end
end UD

namespace UD
open PySem L2 UW UP
theorem NotTup.dT {H : Hp} {q : Addr} {kvs : List (List Key × V)} (h : H q = some (.dT kvs)) : NotTup H q := fun ys e => by rw [h] at e; cases e
/-- a comprehension with tuple keys, walked -/
theorem dt_it {J : It} {n : Nat} {G : Hp → Prop} {Y : Nat → Hp → V → Hp → Prop} (w : Walk J n G Y) {g : TG} {tt : TT} {tk tv : TE} {vs : List Nat} {σ : L2.St} {H1 : Hp} {D : Addr} {Qd : Hp → Prop} (Pv : Nat → Hp → Prop) (h0 : Pv 0 (upd H1 D (.dT []))) (hG : ∀ i H, i ≤ n → Pv i H → G H)
    (hs : ∀ i x H H', i < n → Pv i H → Y i H x H' → g x (wipe σ vs) H' fun σ2 H2 => wipe σ2 vs = wipe σ vs ∧ tt σ2 H2 fun c H3 =>
      if c = true then tk σ2 H3 fun y H4 => tv σ2 H4 fun z H5 => ∃ kvs k b, y = .ref b ∧ H5 b = some (.tup (k.map kV)) ∧ H5 D = some (.dT kvs) ∧ kvs.length < sizeLine ∧ Pv (i + 1) (upd H5 D (.dT (putK kvs k z))) else Pv (i + 1) H3)
    (hd : ∀ H, Pv n H → Qd H) :
    ∃ W : Nat → Nat → Hp → Prop, (∃ m, W 0 m (upd H1 D (.dT []))) ∧ ∀ i m H, W i m H →
      (J.stop i H ∧ Qd H) ∨ (J.go i H ∧ ∃ Nx : Hp → Prop, (∀ H', Nx H' → ∃ m', m' < m ∧ W (i + 1) m' H') ∧ ∀ x H', J.yld i H x H' → g x (wipe σ vs) H' fun σ2 H2 => wipe σ2 vs = wipe σ vs ∧ tt σ2 H2 fun c H3 =>
        if c = true then tk σ2 H3 fun y H4 => tv σ2 H4 fun z H5 => ∃ kvs k b, y = .ref b ∧ H5 b = some (.tup (k.map kV)) ∧ H5 D = some (.dT kvs) ∧ kvs.length < sizeLine ∧ Nx (upd H5 D (.dT (putK kvs k z))) else Nx H3) := by
  refine ⟨fun i m H => i ≤ n ∧ m = n - i ∧ Pv i H, ⟨n, Nat.zero_le _, rfl, h0⟩, fun i m H ⟨hi, e, p⟩ => ?_⟩
  subst e
  have gH := hG i H hi p
  rcases Nat.lt_or_eq_of_le hi with lt | e
  · exact .inr ⟨w.goes i H lt gH, Pv (i + 1), fun H' p' => ⟨n - (i + 1), by omega, lt, rfl, p'⟩, fun x H' y => hs i x H H' lt p (w.yields i H x H' lt gH y)⟩
  · subst e
    exact .inl ⟨w.stops H gH, hd H p⟩
theorem key2_inj {a b : Str × Str} (h : key2 a = key2 b) : a = b := by
  unfold key2 at h
  injection h with h1 h2
  injection h2 with h2 _
  exact Prod.ext (Sum.inr.inj h1) (Sum.inr.inj h2)
theorem key2_mem {d : Str × Str} {es : List (Str × Str)} : key2 d ∈ es.map key2 ↔ d ∈ es :=
  ⟨fun h => by obtain ⟨e, he, q⟩ := List.mem_map.mp h; rw [← key2_inj q]; exact he, fun h => List.mem_map.mpr ⟨d, h, rfl⟩⟩
/-- whether a pair is a key -/
theorem val2 {kvs : List (List Key × V)} {es : List (Str × Str)} (h : kvs.map (·.1) = es.map key2) (d : Str × Str) : (valV kvs (key2 d)).isSome = decide (d ∈ es) := by
  rw [← valV_any]
  by_cases c : d ∈ es
  · rw [decide_eq_true c, List.any_eq_true]
    have : key2 d ∈ kvs.map (·.1) := by
      rw [h]
      exact key2_mem.mpr c
    obtain ⟨p, hp, e⟩ := List.mem_map.mp this
    exact ⟨p, hp, decide_eq_true e⟩
  · rw [decide_eq_false c, Bool.eq_false_iff]
    intro z
    obtain ⟨p, hp, e⟩ := List.any_eq_true.mp z
    refine c (key2_mem.mp ?_)
    rw [← h, ← of_decide_eq_true e]
    exact List.mem_map.mpr ⟨p, hp, rfl⟩
theorem put2_new {kvs : List (List Key × V)} {es : List (Str × Str)} (h : kvs.map (·.1) = es.map key2) {d : Str × Str} (hd : d ∉ es) (v : V) : (putK kvs (key2 d) v).map (·.1) = (es ++ [d]).map key2 := by
  have e := val2 h d
  rw [decide_eq_false hd] at e
  rw [putK_new v (Option.not_isSome_iff_eq_none.mp (by rw [e]; exact Bool.false_ne_true)), List.map_append, List.map_append, h]
  rfl
theorem put2_old {kvs : List (List Key × V)} {es : List (Str × Str)} (h : kvs.map (·.1) = es.map key2) {d : Str × Str} (hd : d ∈ es) (v : V) : (putK kvs (key2 d) v).map (·.1) = es.map key2 := by
  have e := val2 h d
  rw [decide_eq_true hd, ← valV_any] at e
  unfold putK
  rw [if_pos e, List.map_map, ← h]
  refine List.map_congr_left fun p _ => ?_
  show (if p.1 = key2 d then (p.1, v) else p).1 = p.1
  split <;> rfl
theorem len2 {kvs : List (List Key × V)} {es : List (Str × Str)} (h : kvs.map (·.1) = es.map key2) : kvs.length = es.length := by
  have := congrArg List.length h
  rw [List.length_map, List.length_map] at this
  exact this
theorem snoc_nodup {α : Type} {l : List α} {x : α} (h : l.Nodup) (n : x ∉ l) : (l ++ [x]).Nodup := by
  rw [List.nodup_append]
  exact ⟨h, List.nodup_cons.mpr ⟨by simp, List.nodup_nil⟩, fun a ha b hb e => n (by rw [← List.mem_singleton.mp hb, ← e]; exact ha)⟩
end UD
/-! own layer: what an exception class of the program's own needs of its built-in base (KeyError too), and what repr tells of a thing -/
namespace UE
open PySem PySem.Spec PySem.W.X PyProof.Rows L2
/-- the built-in classes above a class that stands below KeyError -/
def keTail : List Value := [.type "KeyError", .type "LookupError", .type "Exception", .type "BaseException", .type "object"]
theorem store_key : StoreFacts "KeyError" keTail "object.__setattr__" "object" :=
  ⟨by kernel_rfl, Slot.of (owner := "object") (n := "__setattr__") (by rw [typeLookup_type, builtinLookup_eq_fast]; kernel_rfl) (by decide +kernel) (by decide +kernel) (by decide +kernel) (.inl (by decide +kernel)) (by rw [isSubtype_type]; kernel_rfl), F.store_LookupError.entry, F.store_LookupError.kind, F.store_LookupError.split, by decide +kernel, F.store_LookupError.args, fun self => by kernel_rfl⟩
/-- at C stands a class of the program below KeyError, which is made as LookupError is -/
structure Below (hp : Heap) (C : Addr) : Prop where
  ex : ∃ nm q N bs tl hd sn sub ab col dd k0 k1 k2 k3 k5, hp.get? C = some (excClassObj nm q C N bs tl hd sn sub ab col dd k0 k1 k2 k3 k5 "LookupError.__new__") ∧ ∀ X : String, tl.contains (.type X) = keTail.contains (.type X)
section
variable {M : Model} {A : Around} {E : Value → Shared → Prop} {hp hp' : Heap} {g : Array GenState} {d : Drawn} {t : Nat} {os : OsState} {C e : Addr}
theorem Below.keeps (b : Below hp C) (k : ∀ c o, hp.get? c = some o → hp'.get? c = some o) : Below hp' C := by
  obtain ⟨nm, q, N, bs, tl, hd, sn, sub, ab, col, dd, k0, k1, k2, k3, k5, here, all⟩ := b.ex
  exact ⟨nm, q, N, bs, tl, hd, sn, sub, ab, col, dd, k0, k1, k2, k3, k5, k _ _ here, all⟩
theorem Below.type (b : Below hp C) : Shared.TypeIs ⟨hp, g, d, t, os⟩ (.ref C) "type" := by
  obtain ⟨nm, q, N, bs, tl, hd, sn, sub, ab, col, dd, k0, k1, k2, k3, k5, here, all⟩ := b.ex
  exact ⟨_, here, rfl⟩
/-- whether it stands below a built-in class -/
theorem Below.sub {X : String} {y : Bool} {Q : Bool → Shared → Prop} (b : Below hp C) (hy : keTail.contains (.type X) = y) (q : Q y ⟨hp, g, d, t, os⟩) : wpAny M A (isSubtype (.ref C) (.type X)) Q E ⟨hp, g, d, t, os⟩ := by
  obtain ⟨nm, qn, N, bs, tl, hd, sn, sub, ab, col, dd, k0, k1, k2, k3, k5, here, all⟩ := b.ex
  refine wpAny_isSubtype_exc here ?_
  rwa [List.contains_cons, all, hy, show (Value.type X == Value.ref C) = false from rfl, Bool.false_or]
theorem Below.self {Q : Bool → Shared → Prop} (b : Below hp C) (q : Q true ⟨hp, g, d, t, os⟩) : wpAny M A (isSubtype (.ref C) (.ref C)) Q E ⟨hp, g, d, t, os⟩ := by
  obtain ⟨nm, qn, N, bs, tl, hd, sn, sub, ab, col, dd, k0, k1, k2, k3, k5, here, all⟩ := b.ex
  refine wpAny_isSubtype_exc here ?_
  rwa [List.contains_cons, beq_self_eq_true, Bool.true_or]
theorem Below.by {Q : Option String → Shared → Prop} (b : Below hp C) (q : Q (some "LookupError.__new__") ⟨hp, g, d, t, os⟩) : wpAny M A (Bind.madeBy (.ref C)) Q E ⟨hp, g, d, t, os⟩ := by
  obtain ⟨nm, qn, N, bs, tl, hd, sn, sub, ab, col, dd, k0, k1, k2, k3, k5, here, all⟩ := b.ex
  exact wpAny_madeBy_exc here q
theorem Below.static {Q : Value → Shared → Prop} (b : Below hp C) (q : Q (.ref C) ⟨hp, g, d, t, os⟩) : wpAny M A (Bind.staticBase (.ref C)) Q E ⟨hp, g, d, t, os⟩ := by
  obtain ⟨nm, qn, N, bs, tl, hd, sn, sub, ab, col, dd, k0, k1, k2, k3, k5, here, all⟩ := b.ex
  exact wpAny_staticBase_exc here q
theorem Below.made {id : String} {Q : Unit → Shared → Prop} (b : Below hp C) (same : Manifest.canonical "LookupError.__new__" = Manifest.canonical id) (q : Q () ⟨hp, g, d, t, os⟩) : wpAny M A (Bind.madeHere id (.ref C)) Q E ⟨hp, g, d, t, os⟩ := by
  obtain ⟨nm, qn, N, bs, tl, hd, sn, sub, ab, col, dd, k0, k1, k2, k3, k5, here, all⟩ := b.ex
  exact wpAny_madeHere_exc same here q
end
section
variable {M : Model} {A : Around} {E : Value → Shared → Prop} {hp hp' : Heap} {g : Array GenState} {d : Drawn} {t : Nat} {os : OsState} {C e : Addr}
/-- LookupError.__new__(C, ..) may be called -/
theorem may_new {rest : List Value} {Q : Unit → Shared → Prop} (b : Below hp C) (q : Q () ⟨hp, g, d, t, os⟩) : wpAny M A (checkBuiltinCall "LookupError.__new__" ⟨.ref C :: rest, []⟩) Q E ⟨hp, g, d, t, os⟩ := by
  have L := F.excBase_LookupError
  obtain ⟨nm, qn, N, bs, tl, hd, sn, sub, ab, col, dd, k0, k1, k2, k3, k5, here, _⟩ := id b.ex
  simp only [checkBuiltinCall, L.newKind, L.newSplit, L.newRow]
  repeat (first | with_reducible refine Below.static b ?_ | with_reducible refine Below.by b ?_ | with_reducible refine Below.made b (by decide +kernel) ?_ | with_reducible refine Below.self b ?_ | with_reducible refine Below.sub (y := true) b (by decide +kernel) ?_ | with_reducible refine Below.sub (y := false) b (by decide +kernel) ?_ | with_reducible refine wpAny_loadPart_at here ?_ | wp_step)
  exact q
/-- KeyError.__init__(e, ..) may be called -/
theorem may_init {o : Obj} {rest : List Value} {Q : Unit → Shared → Prop} (b : Below hp C) (he : hp.get? e = some o) (hc : o.cls = .ref C) (q : Q () ⟨hp, g, d, t, os⟩) : wpAny M A (checkBuiltinCall "KeyError.__init__" ⟨.ref e :: rest, []⟩) Q E ⟨hp, g, d, t, os⟩ := by
  have L := excClass_KeyError
  simp only [checkBuiltinCall, L.initKind, L.initSplit, L.initSig]
  refine wpAny_bind (m := isInstance _ _) ?_
  unfold isInstance
  have ty : wpAny M A (typeOf (.ref e)) (fun v s => v = .ref C ∧ s = ⟨hp, g, d, t, os⟩) E ⟨hp, g, d, t, os⟩ := by
    rw [← hc]
    repeat (first | with_reducible refine wpAny_loadPart_at he ?_ | wp_step)
    exact ⟨rfl, rfl⟩
  refine wpAny_bind (wpAny_mono ty ?_ fun _ _ z => z)
  rintro _ _ ⟨rfl, rfl⟩
  refine b.sub (y := true) (by decide +kernel) ?_
  rw [Bool.not_true, if_neg Bool.false_ne_true]
  unfold Bind.checkArgs
  wp_walk
  obtain ⟨nm, qn, N, bs, tl, hd, sn, sub, ab, col, dd, k0, k1, k2, k3, k5, here, _⟩ := id b.ex
  rw [hc]
  repeat (first | with_reducible refine Below.static b ?_ | with_reducible refine Below.by b ?_ | with_reducible refine Below.made b (by decide +kernel) ?_ | with_reducible refine Below.self b ?_ | with_reducible refine Below.sub (y := true) b (by decide +kernel) ?_ | with_reducible refine Below.sub (y := false) b (by decide +kernel) ?_ | with_reducible refine wpAny_loadPart_at here ?_ | wp_step)
  apply wpAny_onRaise
  rw [show ({ pos := Value.ref e :: rest } : Args).kw = [] from rfl, List.map_nil, check_star_args]
  exact wpAny_pure q
end
section
variable {prog : Program} {w : World} {A : Around} {E : Value → Shared → Prop} {R : Result → Shared → Prop} {hp hp' : Heap} {g : Array GenState} {d : Drawn} {t : Nat} {os : OsState} {C e : Addr}
/-- LookupError.__new__(C, ..): the object and the tuple of what is handed in -/
theorem new_key {rest : List Value} (b : Below hp C) (few : rest.length ≤ sizeLine)
    (q : R (.ok (.ret (.ref (hp.objs.size + 1)))) ⟨(hp.push (PySem.W.kdv_tup rest)).push (HandSPX.excO C hp.objs.size), g, d, t, os⟩) : codeAny (model prog w) A (.builtin "LookupError.__new__" ⟨.ref C :: rest, []⟩) R ⟨hp, g, d, t, os⟩ := by
  have L := F.excBase_LookupError
  obtain ⟨nm, qn, N, bs, tl, hd, sn, sub, ab, col, dd, k0, k1, k2, k3, k5, here, _⟩ := id b.ex
  have ends := L.ends
  refine codeAny_builtinAt L.entry ?_
  unfold Builtin.«BaseException.__new__»
  apply PySem.wpAt_bind
  change PySem.wpAt _ _ _ (stack >>= _) _ _ _
  apply PySem.wpAt_bind
  refine PySem.wpAt_stack fun top under => PySem.wpAt_of_wpAny ?_
  wp_walk
  apply PySem.wpAt_of_wpAny
  rw [L.owner]
  repeat (first | with_reducible refine Below.static b ?_ | with_reducible refine Below.by b ?_ | with_reducible refine Below.made b (by decide +kernel) ?_ | with_reducible refine Below.self b ?_ | with_reducible refine Below.sub (y := true) b (by decide +kernel) ?_ | with_reducible refine Below.sub (y := false) b (by decide +kernel) ?_ | with_reducible refine wpAny_loadPart_at here ?_ | wp_step)
  change R _ _
  rwa [Heap.size_push]
/-- KeyError.__init__(e, ..): the arguments are laid anew -/
theorem init_key {t0 : Addr} {rest : List Value} (b : Below hp C) (he : hp.get? e = some (HandSPX.excO C t0)) (few : rest.length ≤ sizeLine)
    (q : ∀ h' t1, (∀ c o, c ≠ e → hp.get? c = some o → h'.get? c = some o) → h'.get? e = some (HandSPX.excO C t1) → R (.ok (.ret .none)) ⟨h', g, d, t, os⟩) : codeAny (model prog w) A (.call (.builtin "KeyError.__init__") ⟨.ref e :: rest, []⟩) R ⟨hp, g, d, t, os⟩ := by
  refine codeAny_call_builtin excClass_KeyError.init.plain excClass_KeyError.initEntry (may_init b he rfl ?_)
  wp_walk
  refine q _ hp.objs.size (fun c o n z => ?_) ?_
  · exact (Heap.get?_update_other _ _ n.symm).trans (Heap.get?_push_of_some _ z)
  · exact Heap.get?_update_self _ (Heap.get?_push_of_some _ he) rfl
/-- C(..), C's own __init__ behind LookupError.__new__ -/
theorem call_key {fI : Addr} {rest : List Value} (b : Below hp C) (look : PySem.W.Looks (model prog w) hp (typeLookup (.ref C) "__init__") (some (.ref fI))) (bind : ∀ self, PySem.W.Looks (model prog w) hp (bindSpecial (.ref fI) self) (.ref fI, [self])) (few : rest.length ≤ sizeLine)
    (q : codeAny (model prog w) (A.under (.builtin "type.__call__" ⟨.ref C :: rest, []⟩)) (.call (.ref fI) ⟨.ref (hp.objs.size + 1) :: rest, []⟩) (PySem.W.InitBack (hp.objs.size + 1) R) ⟨(hp.push (PySem.W.kdv_tup rest)).push (HandSPX.excO C hp.objs.size), g, d, t, os⟩) :
    codeAny (model prog w) A (.call (.ref C) ⟨rest, []⟩) R ⟨hp, g, d, t, os⟩ := by
  obtain ⟨nm, qn, N, bs, tl, hd, sn, sub, ab, col, dd, k0, k1, k2, k3, k5, here, _⟩ := id b.ex
  have ty := Below.type (g := g) (d := d) (t := t) (os := os) b
  have l1 := tc_lookup
  have l2 := tc_bind (.ref C)
  apply codeAny_of_tree
  change wpAny _ _ (callAny (.ref C) _) _ _ _
  repeat (any_goals (first | assumption | with_reducible refine wpAny_loadPart_at here ?_ | wp_step))
  refine ⟨rfl, ?_⟩
  refine codeAny_call_builtin_at (Code.quiet_builtin _ (by decide +kernel)) entry_typeCall (wpAny_check_type_call_sub here ?_)
  change wpAny _ _ (Builtin.«type.__call__» ⟨.ref C :: rest, []⟩) _ _ _
  repeat (first | with_reducible refine Below.static b ?_ | with_reducible refine Below.by b ?_ | with_reducible refine Below.made b (by decide +kernel) ?_ | with_reducible refine Below.self b ?_ | with_reducible refine Below.sub (y := true) b (by decide +kernel) ?_ | with_reducible refine Below.sub (y := false) b (by decide +kernel) ?_ | with_reducible refine wpAny_loadPart_at here ?_ | wp_step)
  refine codeAny_call_builtin_code (Code.quiet_builtin _ F.excBase_LookupError.quiet) (may_new b (new_key b few ?_))
  change wpAny _ _ _ _ _ _
  have old : ∀ c o, hp.get? c = some o → ((hp.push (PySem.W.kdv_tup rest)).push (HandSPX.excO C hp.objs.size)).get? c = some o := fun c o z => Heap.get?_push_of_some _ (Heap.get?_push_of_some _ z)
  have b1 := b.keeps old
  have it : ((hp.push (PySem.W.kdv_tup rest)).push (HandSPX.excO C hp.objs.size)).get? (hp.objs.size + 1) = some (HandSPX.excO C hp.objs.size) := by heap_get
  unfold isInstance
  repeat (first | with_reducible refine wpAny_loadPart_at it ?_ | with_reducible refine Below.self b1 ?_ | wp_step)
  refine (look.keeps old).at (wpAny_holding (wpAny_bind (((bind _).keeps old).at (wpAny_bind (wpAny_call (codeAny_mono q fun r s' z => ?_))))))
  match r, z with
  | .error _, z => exact z
  | .ok (.ret _), z =>
    obtain ⟨rfl, z⟩ := z
    wp_walk
    exact z
end
/-! ### what a built-in class gives to an own class below it -/
/-- how an own class below it is made, and what its __init__ does -/
structure BaseM (newId initId : String) (tail : List Value) : Prop where
  makes : ∀ {prog : Program} {w : World} {A : Around} {R : Result → Shared → Prop} {hp : Heap} {g : Array GenState} {d : Drawn} {t : Nat} {os : OsState} {nm q : Str} {C N fI : Addr} {bs tl : List Value} {hd : Bool} {sn : List Str} {sub : List Value} {ab : Bool} {col : Option Bool} {dd : Option Addr} {k0 k1 k2 k3 k5 : Option Value} {rest : List Value},
    hp.get? C = some (excClassObj nm q C N bs tl hd sn sub ab col dd k0 k1 k2 k3 k5 newId) → (∀ X : String, tl.contains (.type X) = tail.contains (.type X)) → PySem.W.Looks (model prog w) hp (typeLookup (.ref C) "__init__") (some (.ref fI)) →
    (∀ self, PySem.W.Looks (model prog w) hp (bindSpecial (.ref fI) self) (.ref fI, [self])) → rest.length ≤ sizeLine →
    codeAny (model prog w) (A.under (.builtin "type.__call__" ⟨.ref C :: rest, []⟩)) (.call (.ref fI) ⟨.ref (hp.objs.size + 1) :: rest, []⟩) (PySem.W.InitBack (hp.objs.size + 1) R) ⟨(hp.push (PySem.W.kdv_tup rest)).push (HandSPX.excO C hp.objs.size), g, d, t, os⟩ →
    codeAny (model prog w) A (.call (.ref C) ⟨rest, []⟩) R ⟨hp, g, d, t, os⟩
  inits : ∀ {prog : Program} {w : World} {A : Around} {R : Result → Shared → Prop} {hp : Heap} {g : Array GenState} {d : Drawn} {t : Nat} {os : OsState} {nm q : Str} {C N e t0 : Addr} {bs tl : List Value} {hd : Bool} {sn : List Str} {sub : List Value} {ab : Bool} {col : Option Bool} {dd : Option Addr} {k0 k1 k2 k3 k5 : Option Value} {rest : List Value},
    hp.get? C = some (excClassObj nm q C N bs tl hd sn sub ab col dd k0 k1 k2 k3 k5 newId) → (∀ X : String, tl.contains (.type X) = tail.contains (.type X)) → hp.get? e = some (HandSPX.excO C t0) → rest.length ≤ sizeLine →
    (∀ h' t1, (∀ c o, c ≠ e → hp.get? c = some o → h'.get? c = some o) → h'.get? e = some (HandSPX.excO C t1) → R (.ok (.ret .none)) ⟨h', g, d, t, os⟩) → codeAny (model prog w) A (.call (.builtin initId) ⟨.ref e :: rest, []⟩) R ⟨hp, g, d, t, os⟩
theorem BaseM.exc {B newId initId : String} {tail : List Value} (F : ExcBaseFacts B newId initId tail) : BaseM newId initId tail :=
  ⟨fun here all look bind few q => HandSPX.call_own F all here look bind few q, fun here all he few q => HandSPX.init_base F all here he few q⟩
theorem BaseM.key : BaseM "LookupError.__new__" "KeyError.__init__" keTail :=
  ⟨fun here all look bind few q => call_key ⟨_, _, _, _, _, _, _, _, _, _, _, _, _, _, _, _, here, all⟩ look bind few q, fun here all he few q => init_key ⟨_, _, _, _, _, _, _, _, _, _, _, _, _, _, _, _, here, all⟩ he few q⟩
/-! ### what repr tells of a thing: some text, whatever else is being shown -/
/-- what stood stays -/
def Kept (h h' : Heap) : Prop := ∀ c o, h.get? c = some o → h'.get? c = some o
theorem Kept.refl (h : Heap) : Kept h h := fun _ _ z => z
theorem Kept.trans {h h1 h2 : Heap} (a : Kept h h1) (b : Kept h1 h2) : Kept h h2 := fun c o z => b c o (a c o z)
/-- the thing's text, within another one's: at most n signs, at most k more on the stack -/
def Tells (prog : Program) (w : World) (h0 : Heap) (x : Value) (n k : Nat) : Prop := ∀ (ahead : Nat) (A : Around) (E : Value → Shared → Prop) (s : Shared) (Q : Str → Shared → Prop), ahead + n ≤ sizeLine → A.units + k < cLine → Kept h0 s.heap →
  (∀ m h' tk, m.length ≤ n → Kept s.heap h' → Q m { s with heap := h', toks := tk }) → wpAny (model prog w) A (pyReprUnder ahead x) Q E s
inductive TellsAll (prog : Program) (w : World) (h0 : Heap) (k : Nat) : List Value → Nat → Prop
  | nil : TellsAll prog w h0 k [] 0
  | cons {x : Value} {n : Nat} {xs : List Value} {m : Nat} (h : Tells prog w h0 x n k) (t : TellsAll prog w h0 k xs m) : TellsAll prog w h0 k (x :: xs) (n + 2 + m)
section
variable {prog : Program} {w : World} {A : Around} {E : Value → Shared → Prop} {h0 : Heap} {s : Shared}
theorem Tells.more {x : Value} {n n' k k' : Nat} (h : Tells prog w h0 x n k) (hn : n ≤ n') (hk : k ≤ k') : Tells prog w h0 x n' k' :=
  fun ahead A E s Q room units old q => h ahead A E s Q (by omega) (by omega) old fun m h' tk few => q m h' tk (by omega)
/-- a thing whose text is known -/
theorem Tells.known {x : Value} {t : Str} (h : ReprIs prog w x t) (k : Nat) : Tells prog w h0 x t.length k :=
  fun ahead A E s Q room _ _ q => h ahead room A E s Q fun tk => q t s.heap tk (Nat.le_refl _) (Kept.refl _)
/-- a word of its own -/
theorem own_word {tag : String} {word : Str} {post : PySem.Fin → Shared → Prop} (small : word.length ≤ sizeLine) (h : ∀ tk u, post (.done (.ret (.str word u))) { s with toks := tk }) : wpAny (model prog w) A (rule tag >>= fun _ => retStr word) post E s :=
  wpAny_bind (wpAny_rule (wpAny_bind (wpAny_mkStr (wpAny_pure (h _ _)) small)))
/-- a tuple's parts, one behind another -/
theorem parts_told {k : Nat} (units : A.units + k < cLine) : ∀ {xs : List Value} {n : Nat}, TellsAll prog w h0 k xs n → ∀ (got : Array Str) (far : Nat) (s : Shared) (Q : Array Str × Nat → Shared → Prop), far + n ≤ sizeLine → Kept h0 s.heap →
    (∀ more h' tk, piled more ≤ n → more.length = xs.length → Kept s.heap h' → Q (got ++ more.toArray, far + piled more) { s with heap := h', toks := tk }) → wpAny (model prog w) A (forIn xs (got, far) tupBody) Q E s := by
  intro xs n all
  induction all with
  | nil =>
    intro got far s Q _ _ q
    rw [List.forIn_nil]
    have := q [] s.heap s.toks (Nat.le_refl _) rfl (Kept.refl _)
    exact wpAny_pure (by simpa [piled] using this)
  | @cons x n xs m one _ ih =>
    intro got far s Q room old q
    rw [List.forIn_cons]
    refine wpAny_bind ?_
    unfold tupBody
    refine wpAny_bind (one (far + 1) A E s _ (by omega) units old fun t h' tk short keep => wpAny_pure ?_)
    refine ih (got.push t) (far + (t.length + 2)) _ Q (by omega) (old.trans keep) fun more h2 tk2 few len keep2 => ?_
    have := q (t :: more) h2 tk2 (by rw [piled_cons]; omega) (by rw [List.length_cons, List.length_cons, len]) (keep.trans keep2)
    rw [piled_cons] at this
    rw [show got.push t ++ more.toArray = got ++ (t :: more).toArray from by simp, show far + (t.length + 2) + piled more = far + (t.length + 2 + piled more) from by omega]
    exact this
/-- a tuple's text, ahead of which some signs stand -/
theorem tuple_told {a : Addr} {o : Obj} {xs : Array Value} {c n k ahead : Nat} {post : PySem.Fin → Shared → Prop} (units : A.units + k < cLine) (old : Kept h0 s.heap) (here : s.heap.get? a = some o) (data : o.data = .seq xs c) (parts : TellsAll prog w h0 k xs.toList n) (room : ahead + n + 5 ≤ sizeLine)
    (q : ∀ m u h' tk, m.length ≤ n + 5 → Kept s.heap h' → post (.done (.ret (.str m u))) { s with heap := h', toks := tk }) : wpAny (model prog w) A (Builtin.tupleReprAt ahead ⟨[.ref a], []⟩) post E s := by
  rw [tuple_repr_tree, tupleReprUnderWay_eq]
  refine wpAny_bind (wpAny_bind (wpAny_stack_any fun st => wpAny_pure ?_))
  split
  · exact own_word (by decide +kernel) fun tk u => q _ _ _ _ (by have : ("(...)" : Str).length ≤ 5 := by decide +kernel
                                                                 omega) (Kept.refl _)
  · unfold tupleReprRest Builtin.Tuple.tupleItemsOf
    refine wpAny_bind (wpAny_bind (wpAny_seqItems here data (wpAny_pure ?_)))
    rw [← Array.forIn_toList]
    refine wpAny_bind (parts_told units parts #[] ahead s _ (by omega) old fun more h' tk few len keep => ?_)
    have text : (("(" : Str) ++ Str.join ", " (#[] ++ more.toArray : Array Str).toList ++ (if xs.size == 1 then ",)" else ")" : String)) = tupleText more := by
      unfold tupleText
      rw [len, Array.length_toList]
      simp
    have short := fmt_text more
    rw [text]
    exact wpAny_bind (wpAny_mkStr (wpAny_pure (q _ _ _ _ (by omega) keep)) (by omega))
/-- a list's text: its parts are told one way alone -/
theorem list_told {a : Addr} {o : Obj} {xs : List Value} {c ahead : Nat} {ts : List Str} {Q : Value → Shared → Prop} (here : s.heap.get? a = some o) (data : o.data = .seq xs.toArray c) (parts : ReprAll prog w xs ts) (room : ahead + (listText ts).length + 5 ≤ sizeLine)
    (q : ∀ m u h' tk, m.length ≤ (listText ts).length + 5 → Kept s.heap h' → Q (.str m u) { s with heap := h', toks := tk }) :
    wpAny (model prog w) A.in1 (Builtin.listReprAt ahead ⟨[.ref a], []⟩) (fun fin s' => match fin with | .done f => callEnd Q E (.ok f) s' | .again c' => c'.quiet = true ∧ codeAny (model prog w) A c' (callEnd Q E) s') (fun e s' => callEnd Q E (.error e) s') s := by
  have brief : ∀ m : Str, m.length ≤ 5 → ∀ (tk : Nat) (u : Tok), callEnd Q E (.ok (.ret (.str m u))) { s with toks := tk } := fun m few tk u => q m u s.heap tk (by omega) (Kept.refl _)
  have each : ∀ {xs : List Value} {ts : List Str}, ReprAll prog w xs ts → ∀ (i : Nat) (x : Value), xs[i]? = some x → ∃ t, ts[i]? = some t ∧ ReprIs prog w x t := by
    intro xs ts h
    induction h with
    | nil => exact fun i x e => by simp at e
    | cons r _ ih =>
      intro i x e
      cases i with
      | zero =>
        cases e
        exact ⟨_, rfl, r⟩
      | succ i => exact ih i x e
  unfold Builtin.listReprAt
  refine wpAny_bind (m := slotArgs _ _ _) (wpAny_pure (wpAny_bind (m := Builtin.List.listItems _) (wpAny_listItems here data ?_)))
  split
  · exact own_word (by decide +kernel) fun tk u => brief _ (by decide +kernel) _ _
  refine wpAny_bind (wpAny_stack_any fun st => ?_)
  dsimp only
  split
  · exact own_word (by decide +kernel) fun tk u => brief _ (by decide +kernel) _ _
  have lt := Heap.lt_size here
  refine wpAny_bind (m := newList []) (wpAny_newObj_type (wpAny_pure ⟨F.quiet_list_repr_loop _, ?_⟩))
  refine codeAny_list_repr_start (ts := ts) (Nat.ne_of_lt lt) (by rw [parts.length_eq]; rfl) (fun i x e => each parts i x (by rwa [List.getElem?_toArray] at e)) (Heap.get?_push_of_some _ here) data (Heap.get?_push_size _ rfl) (fun h' u tk keep => ?_) (by omega)
  exact q _ u h' tk (Nat.le_add_right _ _) fun c o e => keep c o (Nat.ne_of_lt (Heap.lt_size e)) (Heap.get?_push_of_some _ e)
theorem list_under {a : Addr} {o : Obj} {xs : List Value} {c : Nat} {ts : List Str} (here : h0.get? a = some o) (cls : o.cls = .type "list") (data : o.data = .seq xs.toArray c) (parts : ReprAll prog w xs ts) : Tells prog w h0 (.ref a) ((listText ts).length + 5) 1 := by
  intro ahead A E s Q room units old q
  have ty : s.TypeIs (.ref a) "list" := ⟨o, old _ _ here, cls⟩
  refine wpAny_pyReprUnder_ref (by omega) (wpAny_pyReprObjUnder_twin (twin := "list.__repr__.under") ty F.slot_list_repr.toG rfl (by omega) ?_)
  exact call_twin_plain F.plain_list_repr_under F.entry_list_repr_under F.check_list_repr_under ty F.slot_list_repr.toG (F.args_list_repr_1 _) (list_told (old _ _ here) data parts (by omega) fun m u h' tk few keep => ⟨⟨m, u, rfl⟩, m, u, rfl, q m h' tk few keep⟩)
/-- repr of an object, whose text is told -/
theorem list_repr {a : Addr} {o : Obj} {xs : List Value} {c : Nat} {ts : List Str} {Q : Value → Shared → Prop} (here : s.heap.get? a = some o) (cls : o.cls = .type "list") (data : o.data = .seq xs.toArray c) (parts : ReprAll prog w xs ts) (room : (listText ts).length + 5 ≤ sizeLine)
    (q : ∀ m u h' tk, m.length ≤ (listText ts).length + 5 → Kept s.heap h' → Q (.str m u) { s with heap := h', toks := tk }) : wpAny (model prog w) A (call (.builtin "list.__repr__") [.ref a]) Q E s :=
  wpAny_call (codeAny_call_builtin F.slot_list_repr.plain F.entry_list_repr (F.slot_list_repr.check _ _ _ _ _ _ _ _ ⟨o, here, cls⟩ (F.args_list_repr_1 _) (list_told here data parts (by omega) q)))
theorem tuple_repr {a : Addr} {o : Obj} {xs : Array Value} {c n k : Nat} {Q : Value → Shared → Prop} (units : A.units + (k + 1) < cLine) (here : s.heap.get? a = some o) (cls : o.cls = .type "tuple") (data : o.data = .seq xs c) (parts : TellsAll prog w s.heap k xs.toList n) (room : n + 5 ≤ sizeLine)
    (q : ∀ m u h' tk, m.length ≤ n + 5 → Kept s.heap h' → Q (.str m u) { s with heap := h', toks := tk }) : wpAny (model prog w) A (call (.builtin "tuple.__repr__") [.ref a]) Q E s := by
  refine wpAny_call (codeAny_call_builtin_own (Code.quiet_builtin _ (by decide +kernel)) F.entry_tuple_repr (F.slot_tuple_repr.check _ _ _ _ _ _ _ _ ⟨o, here, cls⟩ (F.args_tuple_repr_1 _) (wpOwn_of_wpAny (tuple_told (k := k) ?_ (Kept.refl _) here data parts (by omega) fun m u h' tk few keep => q m u h' tk few keep))))
  have : (A.under (.builtin "tuple.__repr__" ⟨[.ref a], []⟩)).units ≤ A.units + 1 := by
    simp [Around.under, Code.cUnits, Code.frames, Code.isFrame]
  show (A.under _).units + k < cLine
  omega
theorem tuple_under {a : Addr} {o : Obj} {xs : Array Value} {c n k : Nat} (here : h0.get? a = some o) (cls : o.cls = .type "tuple") (data : o.data = .seq xs c) (parts : TellsAll prog w h0 k xs.toList n) : Tells prog w h0 (.ref a) (n + 5) (k + 1) := by
  intro ahead A E s Q room units old q
  have ty : s.TypeIs (.ref a) "tuple" := ⟨o, old _ _ here, cls⟩
  refine wpAny_pyReprUnder_ref (by omega) (wpAny_pyReprObjUnder_twin (twin := "tuple.__repr__.under") ty F.slot_tuple_repr rfl (by omega) ?_)
  refine call_twin_own (F.quiet_tuple_repr_under _) F.entry_tuple_repr_under F.check_tuple_repr_under ty F.slot_tuple_repr (F.args_tuple_repr_1 _) (wpOwn_of_wpAny (tuple_told (k := k) ?_ old (old _ _ here) data parts (by omega) fun m u h' tk few keep => (show callEnd _ _ _ _ from ⟨⟨m, u, rfl⟩, m, u, rfl, q m h' tk few keep⟩)))
  show (A.under _).units + k < cLine
  have : (A.under (.builtin "tuple.__repr__.under" ⟨[.ref a, rawInt ahead], []⟩)).units ≤ A.units + 1 := by
    simp [Around.under, Code.cUnits, Code.frames, Code.isFrame]
  omega
end
/-! ### any thing that may be shown: a flat one, a list or a tuple of such, a tuple of these -/
inductive Flat : PyData → Nat → Prop
  | non : Flat .none 4
  | bl (b : Bool) : Flat (.bool b) 5
  | int {i : Int} (h : i.natAbs < 10 ^ 60) : Flat (.int i) 61
  | str {x : Str} (h : ∀ c ∈ x.cps.toList, c < 16 ^ 8) : Flat (.str x) (10 * x.length + 2)
inductive Flats : List PyData → Nat → Prop
  | nil : Flats [] 0
  | cons {d : PyData} {n : Nat} {ds : List PyData} {m : Nat} (h : Flat d n) (t : Flats ds m) : Flats (d :: ds) (n + 2 + m)
inductive Low : PyData → Nat → Prop
  | flat {d : PyData} {n : Nat} (h : Flat d n) : Low d n
  | lst {ds : List PyData} {n : Nat} (h : Flats ds n) : Low (.list ds) (n + 10)
inductive Lows : List PyData → Nat → Prop
  | nil : Lows [] 0
  | cons {d : PyData} {n : Nat} {ds : List PyData} {m : Nat} (h : Low d n) (t : Lows ds m) : Lows (d :: ds) (n + 2 + m)
inductive Odd : PyData → Nat → Prop
  | low {d : PyData} {n : Nat} (h : Low d n) : Odd d n
  | tup {ds : List PyData} {n : Nat} (h : Lows ds n) : Odd (.tuple ds) (n + 10)
theorem list_few (ts : List Str) : (listText ts).length ≤ piled ts + 3 := by
  have e : ∀ l : List Str, piled l = (l.map (·.length)).sum + 2 * l.length := by
    intro l
    induction l with
    | nil => rfl
    | cons t l ih =>
      rw [piled_cons, ih, List.map_cons, List.sum_cons, List.length_cons]
      omega
  have := listText_len_le ts
  have := e ts
  omega
theorem log_few {n : Nat} (h : n < 10 ^ 60) : n.log2 < 1920 := by
  by_cases z : n = 0
  · rw [z]
    decide
  · exact (Nat.log2_lt z).mpr (Nat.lt_trans h (by decide +kernel))
theorem Flats.lows {ds : List PyData} {n : Nat} (h : Flats ds n) : Lows ds n := by
  induction h with
  | nil => exact .nil
  | cons a _ ih => exact .cons (.flat a) ih
section
variable {X : Cx} {pins : List (Addr × Obj)} {σ : L2.St} {H : Hp} {s : Shared}
theorem flat_text {d : PyData} {n : Nat} (h : Flat d n) (few : n ≤ sizeLine) {v : V} {u : Value} (hd : Dp X.K H v d) (r : RelV v u) : ∃ t : Str, t.length ≤ n ∧ ReprIs X.prog X.w u t := by
  cases h with
  | non =>
    cases hd
    cases r
    exact ⟨_, by decide +kernel, .none⟩
  | bl b =>
    cases hd
    cases r
    exact ⟨_, by cases b <;> decide +kernel, .bool b⟩
  | int h =>
    cases hd
    obtain ⟨t, rfl⟩ := r
    have len := int_text_length_le10 (k := 60) (by decide) h
    exact ⟨_, by rw [PySem.ofString_length]; omega, .int t (log_few h)⟩
  | @str x h =>
    cases hd
    obtain ⟨t, rfl⟩ := r
    have len := StrLaws.reprText_len x h
    exact ⟨_, by omega, .str x t (by omega)⟩
theorem flats_text {ds : List PyData} {n : Nat} (h : Flats ds n) (few : n ≤ sizeLine) : ∀ {vs : List V} {us : List Value}, DpAll X.K H vs ds → Vals vs us → ∃ ts : List Str, piled ts ≤ n ∧ ReprAll X.prog X.w us ts := by
  induction h with
  | nil =>
    intro vs us hd r
    cases hd
    cases r
    exact ⟨[], Nat.le_refl _, .nil⟩
  | cons a _ ih =>
    intro vs us hd r
    cases hd with
    | cons d1 d2 =>
      cases r with
      | cons r1 r2 =>
        obtain ⟨t, lt, ht⟩ := flat_text a (by omega) d1 r1
        obtain ⟨ts, lts, hts⟩ := ih (by omega) d2 r2
        exact ⟨t :: ts, by rw [piled_cons]; omega, .cons ht hts⟩
theorem low_tells {d : PyData} {n : Nat} (h : Low d n) (few : n ≤ sizeLine) (I : Inv X pins σ H s) {v : V} {u : Value} (hd : Dp X.K H v d) (r : RelV v u) : Tells X.prog X.w s.heap u n 1 := by
  cases h with
  | flat h =>
    obtain ⟨t, lt, ht⟩ := flat_text h few hd r
    exact (Tells.known ht 1).more lt (Nat.le_refl _)
  | lst h =>
    cases hd with
    | lst sq all =>
      cases r
      obtain ⟨its, rel, ⟨o, c, here, cls, _, data⟩, _⟩ := I.list sq
      obtain ⟨ts, lt, ht⟩ := flats_text h (by omega) all rel
      have := list_few ts
      exact (list_under here cls data ht).more (by omega) (Nat.le_refl _)
theorem lows_tell {ds : List PyData} {n : Nat} (h : Lows ds n) (few : n ≤ sizeLine) (I : Inv X pins σ H s) : ∀ {vs : List V} {us : List Value}, DpAll X.K H vs ds → Vals vs us → TellsAll X.prog X.w s.heap 1 us n := by
  induction h with
  | nil =>
    intro vs us hd r
    cases hd
    cases r
    exact .nil
  | cons a _ ih =>
    intro vs us hd r
    cases hd with
    | cons d1 d2 =>
      cases r with
      | cons r1 r2 => exact .cons (low_tells a (by omega) I d1 r1) (ih (by omega) d2 r2)
/-- {x!r}, x any thing that may be shown: some text -/
def tFmtO (K : PySem.W.Frag) (te : TE) : TE := fun σ H Q => te σ H fun x H1 => ∃ (d : PyData) (n : Nat), Dp K H1 x d ∧ Odd d n ∧ n ≤ 1000000 ∧ ∀ m : Str, m.length ≤ n + 10 → Q (.str m) H1
theorem pe_fmtO {e : Expr} {te : TE} {pos : Pos} {k : Nat} (hr : Room k X.A) (he : PE X e te) : PE X (.FormattedValue e 114 none pos) (tFmtO X.K te) := ⟨fun pins s σ H Q I h => by
  refine wpAny_FormattedValue_repr (thn (he.run pins s σ H _ I h) ?_)
  rintro u s1 ⟨v, H1, I1, r1, d, n, hd, odd, few, q⟩
  have units := hr.units
  have line : n + 100 ≤ sizeLine := by rw [sizeLine_eq]; omega
  have fin : ∀ (m : Str) (t : Tok) (h' : Heap) (tk : Nat), m.length ≤ n + 10 → Kept s1.heap h' → wpAny (model X.prog X.w) X.A (formatField (.str m t) Str.empty) (fun v s' => ∃ y H', Inv X pins σ H' s' ∧ RelV y v ∧ Q y H') X.xe { s1 with heap := h', toks := tk } := fun m t h' tk le keep =>
    wpAny_formatField_str ⟨.str m, H1, I1.kept keep, ⟨_, rfl⟩, q m le⟩ ⟨.str m, H1, I1.kept keep, ⟨_, rfl⟩, q m le⟩ (by omega)
  cases odd with
  | low low =>
    cases low with
    | flat fl =>
      cases fl with
      | non =>
        cases hd
        cases r1
        exact pyReprObj_none (fin _ _ s1.heap _ (by decide +kernel) (Kept.refl _))
      | bl b =>
        cases hd
        cases r1
        exact pyReprObj_bool (fin _ _ s1.heap _ (by cases b <;> decide +kernel) (Kept.refl _))
      | int h =>
        cases hd
        obtain ⟨t, rfl⟩ := r1
        have len := int_text_length_le10 (k := 60) (by decide) h
        exact pyReprObj_int (log_few h) (fin _ _ s1.heap _ (by rw [PySem.ofString_length]; omega) (Kept.refl _))
      | @str x h =>
        cases hd
        obtain ⟨t, rfl⟩ := r1
        have len := StrLaws.reprText_len x h
        exact pyReprObj_str (fin _ _ s1.heap _ (by omega) (Kept.refl _)) (by omega)
    | lst h =>
      cases hd with
      | lst sq all =>
        cases r1
        obtain ⟨its, rel, ⟨o, c, here, cls, _, data⟩, _⟩ := I1.list sq
        obtain ⟨ts, lt, ht⟩ := flats_text h (by omega) all rel
        have := list_few ts
        exact wpAny_pyReprObj_slot (by omega) ⟨o, here, cls⟩ F.slot_list_repr.toG (list_repr here cls data ht (by omega) fun m u h' tk le keep => ⟨m, u, rfl, fin m u h' tk (by omega) keep⟩)
  | tup h =>
    cases hd with
    | tup sq all =>
      cases r1
      obtain ⟨its, rel, ⟨o, here, cls, c, data⟩, _⟩ := I1.tuple sq
      have parts := lows_tell h (by omega) I1 all rel
      exact wpAny_pyReprObj_slot (by omega) ⟨o, here, cls⟩ F.slot_tuple_repr (tuple_repr (k := 1) (by omega) here cls data parts (by omega) fun m u h' tk le keep => ⟨m, u, rfl, fin m u h' tk (by omega) keep⟩)⟩
end
/-! ### a list of texts in a message -/
section
variable {X : Cx}
/-- {xs}, xs a list of texts: some text, not too long -/
def tFmtL (K : PySem.W.Frag) (te : TE) : TE := fun σ H Q => te σ H fun x H1 => ∃ (a : Addr) (l : List Str), x = .ref a ∧ SqL K H1 a (l.map V.str) ∧ (∀ y ∈ l, ∀ c ∈ y.cps.toList, c < 16 ^ 8) ∧ fmtCost l + 8 ≤ sizeLine ∧ ∀ m : Str, m.length ≤ fmtCost l + 8 → Q (.str m) H1
theorem pe_fmtL {e : Expr} {te : TE} {pos : Pos} {k : Nat} (hr : Room k X.A) (he : PE X e te) : PE X (.FormattedValue e (-1) none pos) (tFmtL X.K te) := ⟨fun pins s σ H Q I h => by
  refine wpAny_FormattedValue_plain (thn (he.run pins s σ H _ I h) ?_)
  rintro u s1 ⟨v, H1, I1, r1, a, l, rfl, sq, signs, room, q⟩
  cases r1
  obtain ⟨its, rel, ⟨o, c, here, cls, _, data⟩, _⟩ := I1.list sq
  have units := hr.units
  have cost := fmt_piled l signs
  have text := list_few (l.map reprText)
  have parts : ReprAll X.prog X.w its (l.map reprText) := repr_all rel fun y hy => by
    have := fmtCost_mem hy
    have := StrLaws.reprText_len y (signs y hy)
    omega
  refine wpAny_formatField_slot (fun _ _ => nofun) (by omega) ⟨o, here, cls⟩ F.slot_list_format F.slot_list_str F.slot_list_repr.toG ?_
  exact list_repr (s := { s1 with toks := s1.toks + 1 }) here cls data parts (by omega) fun m u h' tk le keep => ⟨m, u, rfl, .str m, H1, I1.kept keep, ⟨_, rfl⟩, q m (by omega)⟩⟩
end
end UE
/-! own layer: refusals of own classes over any built-in base, made by their own __init__ -/
namespace UX
open PySem PySem.Spec PyProof.Rows L2 Builtin Builtin.ObjectAttr
/-- what the written part says of an own exception class C over the built-in class B -/
structure OwnX (K : PySem.W.Frag) (C : Addr) (B newId initId : String) (bmB : List Value) : Prop where
  base : UE.BaseM newId initId bmB
  store : StoreFacts B bmB "object.__setattr__" "object"
  form : PySem.W.excInitIn K C bmB newId = true
  over : PySem.W.excOver K C bmB = true
  dict : PySem.W.hasDictIn K C = true
  sa : PySem.W.findIn K (.ref C) "__setattr__" = some (some (.builtin "object.__setattr__"))
  exC : PySem.W.subIn K (.ref C) (.type "BaseException") = some true
  tyC : PySem.W.typeIn K (.ref C) = some (.type "type")
  kC : PySem.W.keepIn K (.ref C) = true
section
variable {X : Cx} {pins : List (Addr × Obj)} {σ : L2.St} {H : Hp} {s : Shared} {a C : Addr} {f : Str} {y : V} {u : Value} {A : Around} {B newId initId : String} {bmB : List Value}
/-- the first field of an exception that is being made: its dict is laid -/
theorem field1 {Q : Unit → Shared → Prop} {E : Value → Shared → Prop} (T : OwnX X.K C B newId initId bmB) (I : Inv X pins σ H s) (tracked : H a = some (exo a C none)) (free : PySem.W.findIn X.K (.ref C) f = some none) (rel : RelV y u)
    (done : ∀ dx s', H dx = none → dx ≠ a → Inv X pins σ (upd (upd H a (exo a C (some dx))) dx (exd dx [(f, y)])) s' → Q () s') : wpAny (model X.prog X.w) A (setAttr (.ref a) f u) Q E s := by
  obtain ⟨t1, here⟩ := exo_at I.hok tracked
  obtain ⟨cd, hcd, hasD⟩ := PySem.W.any_some T.dict
  obtain ⟨hp, g, d, t, os⟩ := s
  have inst : PySem.W.InstAt hp a { cls := .ref C, dict := none, data := .fields #[.ref t1, .none, .none, .none, .bool false, .none] } C none := ⟨here, rfl, rfl, trivial⟩
  have look : PySem.W.Looks (model X.prog X.w) hp (classData C) cd := PySem.W.looks_clsIn I.kIn hcd
  have apart : a ≠ hp.objs.size := Nat.ne_of_lt (Heap.lt_size here)
  refine PySem.W.set_plain I.kIn inst T.sa (PySem.W.osa_openX (r := none) T.store I.kIn inst T.over (by unfold PySem.W.takerIn; rw [free]; rfl) fun b => ?_)
  show wpAny _ _ (storeInOwnDict _ _ _ _ _ _) _ _ _
  have last : ∀ h' tk', h'.Ns1 hp.objs.size (fun z => if z = f then some u else none) → (∀ b o, b ≠ a → hp.get? b = some o → h'.get? b = some o) →
      h'.get? a = some { cls := .ref C, dict := some hp.objs.size, data := .fields #[.ref t1, .none, .none, .none, .bool false, .none] } → Q () ⟨h', g, d, tk', os⟩ := by
    intro h' tk' ns kept now
    obtain ⟨G, same, gone⟩ := restrict h' fun b => decide (b ≠ hp.objs.size)
    have sub : ∀ b o, G.get? b = some o → h'.get? b = some o := fun b o e => by
      by_cases c : b = hp.objs.size
      · rw [c, gone _ (by simp)] at e
        cases e
      · rwa [same b (decide_eq_true c)] at e
    have nowG := (same a (decide_eq_true apart)).trans now
    have J := I.write (t' := tk') (x := a) (e := a) (o := exo a C (some hp.objs.size)) (by rw [tracked]; trivial) (.inl rfl) (fun b o n e => (same b (decide_eq_true (Nat.ne_of_lt (Heap.lt_size e)))).trans (kept b o n e)) ⟨_, nowG⟩ (exo_ok nowG)
    have fresh : H hp.objs.size = none := I.hok.fresh (Nat.le_refl _)
    exact done _ _ fresh apart.symm (J.laidN (t' := tk') sub (gone _ (by simp)) (by rw [upd_ne apart.symm]; exact fresh) (exd_ok ns (relO_put (fs := []) rel fun _ => trivial)))
  obtain ⟨nm, bs, mro, ns, qn, hd, sn, sb, ab, col, del⟩ := cd
  dsimp only at hasD
  subst hasD
  unfold storeInOwnDict ownDictForStores
  repeat (first | with_reducible refine HandSPX.store_in_new ?_ ?_ | with_reducible refine wpAny_loadPart_at here ?_ | with_reducible refine look.at ?_ | wp_step)
  · exact ⟨_, #[], _, (Heap.get?_update_ne _ _ _ _ apart.symm).trans (Heap.get?_push_at rfl rfl), rfl, (fun _ z => nomatch z), fun _ => rfl⟩
  · intro h' tk' ns' rest
    refine last h' tk' ns' (fun b o n e => ?_) ?_
    · rw [rest.2 b (Nat.ne_of_lt (Heap.lt_size e)), Heap.get?_update_ne _ _ _ _ n]
      exact Heap.get?_push_of_some _ e
    · rw [rest.2 a apart]
      exact Heap.get?_update_self _ (Heap.get?_push_of_some _ here) rfl
/-- a further field of an exception that is being made -/
theorem field2 {Q : Unit → Shared → Prop} {E : Value → Shared → Prop} {dx : Addr} {fs : List (Str × V)} (T : OwnX X.K C B newId initId bmB) (I : Inv X pins σ H s) (tracked : H a = some (exo a C (some dx))) (held : H dx = some (exd dx fs)) (few : fs.length ≤ 900) (free : PySem.W.findIn X.K (.ref C) f = some none) (rel : RelV y u)
    (done : ∀ s', Inv X pins σ (upd H dx (exd dx ((f, y) :: fs))) s' → Q () s') : wpAny (model X.prog X.w) A (setAttr (.ref a) f u) Q E s := by
  obtain ⟨t1, here⟩ := exo_at I.hok tracked
  obtain ⟨mA, ns, rels⟩ := exd_at I.hok held
  have within := within_of rels
  obtain ⟨cd, hcd, hasD⟩ := PySem.W.any_some T.dict
  obtain ⟨hp, g, d, t, os⟩ := s
  obtain ⟨oD, _, _, hoD, _, _⟩ := ns.count within
  have inst : PySem.W.InstAt hp a { cls := .ref C, dict := some dx, data := .fields #[.ref t1, .none, .none, .none, .bool false, .none] } C (some oD) := ⟨here, rfl, rfl, hoD⟩
  have look : PySem.W.Looks (model X.prog X.w) hp (classData C) cd := PySem.W.looks_clsIn I.kIn hcd
  refine PySem.W.set_plain I.kIn inst T.sa (PySem.W.osa_openX (r := none) T.store I.kIn inst T.over (by unfold PySem.W.takerIn; rw [free]; rfl) fun b => ?_)
  show wpAny _ _ (storeInOwnDict _ _ _ _ _ _) _ _ _
  obtain ⟨nm, bs, mro, nss, qn, hd, sn, sb, ab, col, del⟩ := cd
  dsimp only at hasD
  subst hasD
  unfold storeInOwnDict ownDictForStores
  have low : (fs.map (·.1)).length ≤ 1000 := by
    rw [List.length_map]
    omega
  repeat (first | with_reducible refine PySem.OEX.store_in_old ns within low ?_ | with_reducible refine wpAny_loadPart_at here ?_ | with_reducible refine look.at ?_ | wp_step)
  intro h' tk' ns' only
  have there : ∃ o, h'.get? dx = some o := by
    obtain ⟨o, _, _, e, _⟩ := ns'
    exact ⟨o, e⟩
  exact done _ (I.write (t' := tk') (x := dx) (e := dx) (by rw [held]; trivial) (.inl rfl) (fun b o n e => (only.2 b n).trans e) there (exd_ok ns' (relO_put rel rels)))
/-- B.__init__(self, ..): the arguments alone are laid -/
theorem init1 {us : List Value} {Q : Value → Shared → Prop} {E : Value → Shared → Prop} (T : OwnX X.K C B newId initId bmB) (I : Inv X pins σ H s) (tracked : H a = some (exo a C none)) (few : us.length ≤ sizeLine)
    (done : ∀ s', Inv X pins σ H s' → Q .none s') : wpAny (model X.prog X.w) A (call (.builtin initId) (.ref a :: us)) Q E s := by
  obtain ⟨_, _, _, _, _, _, _, _, _, _, _, _, _, _, _, _, cls, tail⟩ := PySem.W.excInit_of I.kIn T.form
  obtain ⟨_, here⟩ := exo_at I.hok tracked
  obtain ⟨hp, g, d, t, os⟩ := s
  refine wpAny_call (T.base.inits cls tail here few fun h' _ kept now => done _ ?_)
  have J := I.write (t' := t) (x := a) (e := a) (o := exo a C none) (by rw [tracked]; trivial) (.inl rfl) kept ⟨_, now⟩ (exo_ok now)
  have same : upd H a (exo a C none) = H := funext fun b => by
    by_cases c : b = a
    · rw [c, upd_same, tracked]
    · exact upd_ne c
  rwa [same] at J
end
/-- a call o.name(..), read as the method that is got and then called -/
def Reads (X : Cx) (o : Expr) (name : Str) (at_ : Pos) (es : List Expr) (ks : List Keyword) (pos : Pos) (pl : Sem Bool) : Prop := ∀ {Q : Value → Shared → Prop} {E : Value → Shared → Prop} {s : Shared},
  wpAny (model X.prog X.w) X.A (eval o X.env) (fun self s1 => wpAny (model X.prog X.w) X.A (getMethod self name pl) (fun m s2 => wpAny (model X.prog X.w) X.A (callWith pos m.1 m.2 (backTo pos (starEach es X.env)) (backToKw pos (keywordEach ks X.env))) Q E s2) E s1) E s →
    wpAny (model X.prog X.w) X.A (eval (.Call (.Attribute o name at_) es ks pos) X.env) Q E s
/-! ### readings -/
/-- B.__init__(self, ..) -/
def tInit (K : PySem.W.Frag) (B newId initId : String) (bmB : List Value) (ta : TA) : TE := fun σ H Q => ta σ H fun vs H1 => ∃ (a C : Addr) (ws : List V), vs = .ref a :: ws ∧ ws.length ≤ 1000 ∧ OwnX K C B newId initId bmB ∧ H1 a = some (exo a C none) ∧ Q .non H1
/-- self.f = e, the first field -/
def tFld1 (K : PySem.W.Frag) (B newId initId : String) (bmB : List Value) (f : Str) (to te : TE) : TS := fun D σ H => te σ H fun y H1 => to σ H1 fun x H2 => ∃ a C : Addr, x = .ref a ∧ OwnX K C B newId initId bmB ∧ PySem.W.findIn K (.ref C) f = some none ∧ H2 a = some (exo a C none) ∧
  ∀ dx, H2 dx = none → dx ≠ a → D.nx σ (upd (upd H2 a (exo a C (some dx))) dx (exd dx [(f, y)]))
/-- self.f = e, a further field -/
def tFld2 (K : PySem.W.Frag) (B newId initId : String) (bmB : List Value) (f : Str) (to te : TE) : TS := fun D σ H => te σ H fun y H1 => to σ H1 fun x H2 => ∃ (a C dx : Addr) (fs : List (Str × V)), x = .ref a ∧ OwnX K C B newId initId bmB ∧ PySem.W.findIn K (.ref C) f = some none ∧ H2 a = some (exo a C (some dx)) ∧ H2 dx = some (exd dx fs) ∧ fs.length ≤ 900 ∧
  D.nx σ (upd H2 dx (exd dx ((f, y) :: fs)))
/-- C(e, ..), whose own __init__ keeps sp -/
def tOwn (C : Addr) (sp : Sp) (ta : TA) : L2.St → Hp → XK → Prop := fun σ H Q => ta σ H fun vs H1 => vs.length ≤ 1000 ∧ ∀ a, H1 a = none → sp (.ref a :: vs) (upd H1 a (exo a C none))
  (fun v H2 => v = .non ∧ ∃ (d : Addr) (fs : List (Str × V)), H2 a = some (exo a C (some d)) ∧ H2 d = some (exd d fs) ∧ H1 d = none ∧ Q (.ref C) (some d) (upd (del H2 a) d (.xd fs))) (fun _ _ _ => False)
section
variable {X : Cx} {o e : Expr} {es : List Expr} {to te : TE} {ta : TA} {f x : Str} {p p' p1 p2 pos : Pos} {B newId initId : String} {bmB : List Value} {Bs : Str}
theorem pe_init {pl : Sem Bool} (hB : bootBuiltins Bs = some (.type B)) (ty : typeOf (.type B) = pure (.type "type")) (stub : Manifest.isStub B = false) (nb : (Bs == ("__debug__" : Str)) = false) (nn : Bs ≠ "__name__") (hg : Gl X Bs) (hm : X.mg Bs = none) (at_ : PySem.W.findCls X.K (.type B) (.type "type") "__init__" = some (.val (.builtin initId))) (hi : PySem.W.handedIn (.builtin initId) = true) (ha : PA X (e :: es) ta)
    (hc : Reads X (.Name Bs p1) "__init__" p2 (e :: es) [] pos pl := by intro _ _ _ h; exact PySem.W.methodCall_KW h)
    (he : starEach (e :: es) X.env = (false, eval e X.env) :: starEach es X.env := by rfl) (hpl : (backTo pos (starEach es X.env)).any (·.1) = false := by rfl) :
    PE X (.Call (.Attribute (.Name Bs p1) "__init__" p2) (e :: es) [] pos) (tInit X.K B newId initId bmB ta) := ⟨fun pins s σ H Q I h => by
  refine hc (ld_blt I hg hm hB ?_ nn nb)
  obtain ⟨m, fr⟩ := I.fr
  refine PySem.W.method_type fr I.ok.mod.kin ty stub at_ hi (PyProof.Rows.callWith_method1 (thn (ha.run pos pins _ σ H _ (I.tok _) h) ?_) he hpl)
  rintro us s1 ⟨_, H1, I1, rel, a, C, ws, rfl, few, T, here, q⟩
  cases rel with
  | cons ra rest =>
    cases ra
    exact init1 T I1 here (by rw [← Paired.length rest, sizeLine_eq]; omega) fun s' J => ⟨.non, H1, J, rfl, q⟩⟩
theorem ps_fld1 (ho : PE X o to) (he : PE X e te) (hs : swapsWith e (some (.Attribute o f p')) pos.line X.env = pure false := by rfl) : PS X (.Assign [.Attribute o f p'] e pos) (tFld1 X.K B newId initId bmB f to te) := ⟨fun pins s σ H D I h => by
  refine plainObj_wpAny_Assign_Attribute (thn (he.run pins s σ H _ I h) ?_) hs
  rintro v s1 ⟨y, H1, I1, r1, q1⟩
  refine thn (ho.run pins s1 σ H1 _ I1 q1) ?_
  rintro _ s2 ⟨_, H2, I2, rx, a, C, rfl, T, free, here, q⟩
  cases rx
  exact field1 T I2 here free r1 fun dx s' n ne J => ⟨σ, _, J, q dx n ne⟩⟩
theorem ps_fld2 (ho : PE X o to) (he : PE X e te) (hs : swapsWith e (some (.Attribute o f p')) pos.line X.env = pure false := by rfl) : PS X (.Assign [.Attribute o f p'] e pos) (tFld2 X.K B newId initId bmB f to te) := ⟨fun pins s σ H D I h => by
  refine plainObj_wpAny_Assign_Attribute (thn (he.run pins s σ H _ I h) ?_) hs
  rintro v s1 ⟨y, H1, I1, r1, q1⟩
  refine thn (ho.run pins s1 σ H1 _ I1 q1) ?_
  rintro _ s2 ⟨_, H2, I2, rx, a, C, dx, fs, rfl, T, free, here, held, few, q⟩
  cases rx
  exact field2 T I2 here held few free r1 fun s' J => ⟨σ, _, J, q⟩⟩
theorem pm_own {CX : CXT} {C fI : Addr} {k : Nat} {fd : FuncData} {ps : List Str} {sp : Sp} (T : OwnX X.K C B newId initId bmB) (at_ : PySem.W.findIn X.K (.ref C) "__init__" = some (some (.ref fI))) (tI : PySem.W.typeIn X.K (.ref fI) = some (.type "function"))
    (F1 : FnOk X.prog X.w X.K X.mg X.base CX k fI fd ps sp) (hr : Room (k + 1) X.A) (hb : Binds X.K fd ps []) (hx : Passes CX X (fun _ _ _ => False)) (hg : Gl X x) (hm : X.mg x = some (.ref C)) (ha : PA X (e :: es) ta)
    (hdb : (x == ("__debug__" : Str)) = false := by decide) (he : starEach (e :: es) X.env = (false, eval e X.env) :: starEach es X.env := by rfl) (hpl : (backTo pos (starEach es X.env)).any (·.1) = false := by rfl) :
    L2N.PMk X (.Call (.Name x p) (e :: es) [] pos) (tOwn C sp ta) := by
  intro pins s σ H Q I h
  refine wpAny_Call_Name_kw (ld_glob I hg hm (PySem.W.callWith_K (h₀ := X.base) I.ok.mod.kin T.kC (thn (ha.run pos pins s σ H _ I h) ?_) he hpl) hdb)
  rintro us ⟨hp, g, dr, tk, os⟩ ⟨vs, H1, I1, rel, few, q⟩
  refine ⟨I1.kIn, ?_⟩
  show wpAny _ _ (call (.ref C) us) _ _ _
  obtain ⟨_, _, _, _, _, _, _, _, _, _, _, _, _, _, _, _, cls, tail⟩ := PySem.W.excInit_of I1.kIn T.form
  have good := q (hp.objs.size + 1) (I1.hok.fresh (Nat.le_succ _))
  have old : ∀ b o, hp.get? b = some o → ((hp.push (PySem.W.kdv_tup us)).push (HandSPX.excO C hp.objs.size)).get? b = some o := fun b o z => Heap.get?_push_of_some _ (Heap.get?_push_of_some _ z)
  have J := I1.laid (t' := tk) (a := hp.objs.size + 1) (o := exo (hp.objs.size + 1) C none) (h' := (hp.push (PySem.W.kdv_tup us)).push (HandSPX.excO C hp.objs.size)) old (Nat.le_succ _) (exo_ok (by heap_get))
  have all : Vals (V.ref (hp.objs.size + 1) :: vs) (Value.ref (hp.objs.size + 1) :: us) := .cons rfl rel
  have count : (Value.ref (hp.objs.size + 1) :: us).length = ps.length := all.length.symm.trans (F1.len _ _ _ _ good)
  have bound := hb _ (Value.ref (hp.objs.size + 1) :: us) J.kIn (by rw [List.append_nil]; exact count)
  rw [List.append_nil] at bound
  refine wpAny_call (T.base.makes cls tail (PySem.W.looks_findIn I1.kIn at_) (fun self => PySem.W.bind_fn I1.kIn self tI) (by rw [← Paired.length rel, sizeLine_eq]; omega)
    (codeAny_mono (F1.run _ X.stack _ _ ⟨Value.ref (hp.objs.size + 1) :: us, []⟩ (Value.ref (hp.objs.size + 1) :: us) _ _ (fun _ _ _ => False) (hr.make C us []) (J.env0.make C us []) bound all good) ?_))
  rintro (er | _ | _ | _ | v) s' out
  · exact hx pins σ _ _ er s' J out
  · exact False.elim out
  · exact False.elim out
  · exact False.elim out
  obtain ⟨_, H2, os2, bare2, un2, hok2, rv, rfl, d, fs, ea, ed, new, q2⟩ := out
  obtain ⟨h2, g2, d2, t2, os'⟩ := s'
  obtain ⟨t0, G, I3, sub, gone, there, na⟩ := mk_end0 (d2 := d2) (t2 := t2) I1 (Nat.le_succ _) old un2 hok2 os2 bare2 ea ed new
  exact ⟨rv, hp.objs.size + 1, _, _, ⟨G, g2, d2, t2, os'⟩, _, .ref C, some d, rfl, I3, sub, gone, there, ⟨rfl, rfl, fun vs z => by cases z; rfl⟩, rfl, rfl, na, rfl, bare2, raises_own T.exC T.tyC, q2⟩
end
/-! ### count of flat items -/
section
variable {X : Cx}
def rCntF (K : PySem.W.Frag) : V → List V → Hp → VK → Prop := fun x xs H Q => ∃ (a : Addr) (ys : List V) (y : V), x = .ref a ∧ xs = [y] ∧ SqL K H a ys ∧ flatV y = true ∧ ys.all flatV = true ∧ Q (.int (ys.countP fun z => eqV z y : Nat)) H
theorem countP_rel {y : V} : ∀ {ys : List V} {its : List Value}, Vals ys its → ys.all flatV = true → its.countP (eqU y) = ys.countP fun z => eqV z y
  | _, _, .nil, _ => rfl
  | z :: ys, u :: its, .cons r rest, flat => by
    have two := Bool.and_eq_true_iff.mp (show (flatV z && ys.all flatV) = true from flat)
    rw [List.countP_cons, List.countP_cons, countP_rel rest two.2, eqU_of r two.1]
theorem mt_cntF : MtR X "list.count" (rCntF X.K) := fun pins s σ H x xs v us Q I rx rxs h => by
  obtain ⟨a, ys, y, rfl, rfl, seq, fy, fys, q⟩ := h
  cases rx
  obtain ⟨u, rfl, ru⟩ := rxs.one
  obtain ⟨its, rel, ⟨⟨cls, dd, data, sl⟩, n, there, hc, _, hd⟩, _⟩ := I.list seq
  simp only at hc hd
  subst hc hd
  refine call_meets PySem.F.slot_list_count ⟨_, there, rfl⟩ PySem.F.entry_list_count (PySem.F.args_list_count_2 _ _) (SeqAt.list_countAt a its.toArray n dd sl u (eqU y)) ⟨there, fun z hz => mem_eqAt ru fy rel fys z (by simpa using hz), .int (ys.countP fun z => eqV z y : Nat), H, I.tok _, ⟨s.toks, ?_⟩, q⟩
  show Value.int ((its.toArray.toList.countP (eqU y) : Nat) : Int) s.toks = _
  rw [show its.toArray.toList = its from rfl, countP_rel rel fys]
end
/-! ### a def that is called with the exception that is handled -/
/-- what it keeps: its promise knows the exception's object -/
structure FnK (P : Program) (w : World) (K : PySem.W.Frag) (mg : Str → Option Value) (base : Heap) (CX : CXT) (k : Nat) (f : Addr) (fd : FuncData) (ps : List Str) (sp : Addr → Value → Option Addr → Sp) : Prop where
  count : ∀ a cls d vs H Q E, sp a cls d vs H Q E → vs.length = ps.length
  goes : ∀ (A : Around) (outer : List Env) (s : Shared) (H : Hp) (args : Args) (us : List Value) (vs : List V) (Q : VK) (E : XK) (p : Addr × Obj), L2H.RoomH k A → L2H.Hot1 A p → L2H.PinOk outer H s p → Env0 P w K mg base A outer s H →
    BindsTo s fd args (ps.zip us) → Vals vs us → sp p.1 p.2.cls p.2.dict vs H Q E → codeAny (model P w) A (.call (.ref f) args) (CR CX outer P w H s Q E) s
section
variable {P : Program} {w : World} {K : PySem.W.Frag} {mg : Str → Option Value} {base : Heap} {CX : CXT} {k : Nat} {f : Addr} {fd : FuncData} {N ps : List Str} {sp : Addr → Value → Option Addr → Sp} {x qual : Str} {params : Arguments} {body : List Stmt} {scope : Scope} {dvs : List V} {kws : List (Str × V)}
theorem okK (F : FunD K x qual params body scope dvs kws f fd) (S : FnScope N ps scope) (count : ∀ a cls d vs H Q E, sp a cls d vs H Q E → vs.length = ps.length)
    (inner : ∀ (cdv : Value) (A : Around) (outer : List Env) (s : Shared) (H : Hp) (vs : List V) (Q : VK) (E : XK) (p : Addr × Obj), L2H.Hot1 A p → L2H.RoomH k (A.deeper (envOfC qual scope s.heap.objs.size f cdv)) → sp p.1 p.2.cls p.2.dict vs H Q E →
      ∃ t, PSs (L2H.cxH CX P w K mg base N qual scope f cdv A outer s H E p) body t ∧ t { nx := fun _ H' => Q .non H', rt := Q } (L2.start N vs) H) : FnK P w K mg base CX (k + 1) f fd ps sp := by
  obtain ⟨oc, od, dV, kV, doc, pm, an, cdv, ct, osl, rfl, place, code, _, _⟩ := F.ex
  refine ⟨count, fun A outer s H args us vs Q E p room hot pin env bind vals good => ?_⟩
  obtain ⟨t, sound, holds⟩ := inner cdv A outer s H vs Q E p hot (room.deeper _) good
  have old : ∀ b o, base.get? b = some o → s.heap.get? b = some o := fun b o e => (env.bs b o e).1
  have kin := env.mod.kin.keeps old
  have slots : ∀ y ∈ ps.zip us, scope.names.lookup y.1 = some .local ∨ (scope.names.lookup y.1 = some .cell ∧ ((cellsFrom (s.heap.objs.size + 1) scope.names []).lookup y.1).isSome = true) := fun y hy =>
    (S.par y.1 (List.of_mem_zip (a := y.1) (b := y.2) hy).1).imp id fun c => ⟨c, PySem.W.cellsFrom_some _ _ _ (.inl c)⟩
  apply codeAny_call_function room.depth (kin _ _ place) rfl S.co S.gen rfl (PySem.W.codeRec_of kin code)
  apply bind
  refine wpAny_newFunctionEnv_cells S.kind slots ?_
  rintro _ rfl s1 step
  have inv := L2H.inv_startH (CX := CX) (E := E) S pin env (count _ _ _ _ _ _ _ good) vals step
  refine ⟨(env.mod.nolimit.keeps old).keeps step.toInCall.keep, codeAny_func (wpAny_mono (sound.run [] s1 (L2.start N vs) H _ inv holds) ?_ fun _ _ z => z)⟩
  rintro (_ | _ | _ | u) s' out
  · obtain ⟨_, H', J, done⟩ := out
    exact ⟨.non, H', J.os, J.bare, J.base, J.hok, rfl, done⟩
  · exact out.elim fun _ ⟨_, _, no⟩ => no.elim
  · exact out.elim fun _ ⟨_, _, no⟩ => no.elim
  · obtain ⟨v, _, H', J, rel, done⟩ := out
    exact ⟨v, H', J.os, J.bare, J.base, J.hok, rel, done⟩
end
section
variable {X : Cx} {CX : CXT} {k : Nat} {f : Addr} {fd : FuncData} {ps : List Str} {sp : Addr → Value → Option Addr → Sp} {x : Str} {q pos : Pos} {e : Expr} {es : List Expr} {t : TA} {a : Addr} {oe : Obj} {cls : Value} {d : Option Addr}
/-- f(e, ..) in a suite -/
def tCallK (sp : Sp) (t : TA) : TE := fun σ H Q => t σ H fun vs H1 => sp vs H1 Q fun _ _ _ => False
theorem pe_callK (F : FnK X.prog X.w X.K X.mg X.base CX k f fd ps sp) (hr : L2H.RoomH k X.A) (hot : L2H.Hot1 X.A (a, oe)) (hp : (a, oe) ∈ X.pn) (hz : L2N.Zn cls d oe) (hg : Gl X x) (hm : X.mg x = some (.ref f)) (hk : PySem.W.keepIn X.K (.ref f) = true) (hb : Binds X.K fd ps []) (hx : Passes CX X fun _ _ _ => False)
    (ha : PA X (e :: es) t) (hdb : (x == ("__debug__" : Str)) = false := by decide) (he : starEach (e :: es) X.env = (false, eval e X.env) :: starEach es X.env := by rfl) (hpl : (backTo pos (starEach es X.env)).any (·.1) = false := by rfl) :
    PE X (.Call (.Name x q) (e :: es) [] pos) (tCallK (sp a cls d) t) := ⟨fun pins s σ H Q I h => by
  obtain ⟨rfl, rfl, _⟩ := hz
  refine wpAny_Call_Name_kw (ld_glob I hg hm (PySem.W.callWith_K (h₀ := X.base) I.ok.mod.kin hk (thn (ha.run pos pins s σ H _ I h) ?_) he hpl) hdb)
  rintro us s1 ⟨vs, H1, I1, rel, good⟩
  refine ⟨I1.kIn, ?_⟩
  have count : us.length = ps.length := rel.length.symm.trans (F.count _ _ _ _ _ _ _ good)
  have bound := hb s1 us I1.kIn (by rw [List.append_nil]; exact count)
  rw [List.append_nil] at bound
  obtain ⟨here, free, noLoc, noFs, noCell⟩ := I1.pin (a, oe) (List.mem_append_left _ hp)
  have pin : L2H.PinOk X.stack H1 s1 (a, oe) := ⟨here, free, fun z => (List.mem_cons.mp (I1.stkSub a z)).elim noLoc noFs, noCell⟩
  refine wpAny_call (codeAny_mono (F.goes X.A X.stack s1 H1 ⟨us, []⟩ us vs Q _ (a, oe) hr hot pin I1.env0 bound rel good) ?_)
  rintro (er | _ | _ | _ | u) s' out
  · exact hx pins σ H1 s1 er s' I1 out
  · exact False.elim out
  · exact False.elim out
  · exact False.elim out
  · exact I1.after out⟩
end
/-! ### isinstance of the exception that is handled -/
section
variable {X : Cx} {a : Addr} {oe : Obj} {cls : Value} {d : Option Addr}
def rIsK (K : PySem.W.Frag) (a : Addr) (cls : Value) (d : Option Addr) : List V → Hp → VK → Prop := fun xs H Q => ∃ (D : Addr) (c : V) (cv : Value) (b : Bool) (dd : Addr) (fs : List (Str × V)), cls = .ref D ∧ xs = [.ref a, c] ∧ L2.ExcC K D ∧ (∀ u, RelV c u → u = cv) ∧ PySem.W.kitOne K (.ref D) cv = some b ∧ d = some dd ∧ H dd = some (.xd fs) ∧ Q (.bl b) H
theorem call_isK (hp : (a, oe) ∈ X.pn) (hc : oe.cls = cls) (hd : oe.dict = d) (flds : ∃ vs, oe.data = .fields vs) : CallR X (.builtin "isinstance") (rIsK X.K a cls d) := fun pins s σ H xs us Q I r h => by
  obtain ⟨D, c, cv, b, dd, fs, rfl, rfl, C, only, kit, rfl, hx, q⟩ := h
  cases r with
  | cons r1 r2 =>
    cases r1
    obtain ⟨u, rfl, ru⟩ := Vals.one r2
    cases only u ru
    obtain ⟨vs, hv⟩ := flds
    obtain ⟨here, _⟩ := I.pin (a, oe) (List.mem_append_left _ hp)
    obtain ⟨mA, ⟨od, es, ep, there, _⟩, _⟩ := (I.hok dd _ hx : ObjOk X.prog X.w H s.heap dd (.xd fs))
    have inst : PySem.W.InstAt s.heap a oe D (some od) := ⟨here, hc, by unfold PySem.W.notCls; rw [hv] <;> rfl, by rw [hd]; exact there⟩
    obtain ⟨cd, hcd, _⟩ := PySem.W.any_some C.hd
    exact PySem.W.kia_one (PySem.W.kitx_exc (by rw [hcd]; rfl) C.hg C.hk C.hs C.ha C.hn C.ht C.hm) I.kIn inst kit (fun z => nomatch z) fun tk => ⟨.bl b, H, I.kept (t' := tk) fun _ _ z => z, rfl, q⟩
end
/-! ### calls that may be refused, in a try -/
section
variable {X : Cx} {W : WX} {k : Nat} {f C : Addr} {fd : FuncData} {ps : List Str} {sp : Sp} {x m : Str} {p pos apos : Pos} {e o : Expr} {es : List Expr} {ta : TE} {t : TA}
/-- C(e, ..) -/
def tMakeX (C : Addr) (sp : Sp) (W : WX) (t : TA) : TE := fun σ H Q => t σ H fun vs H1 => ∀ x dx, H1 x = none → H1 dx = none → dx ≠ x →
  sp (.ref x :: vs) (upd (upd H1 dx (.own x)) x (.ins C dx [])) (fun v H2 => v = .non ∧ Q (.ref x) H2) fun cls d H' => W cls d σ H'
theorem pe_makeX (M : Mk X.K C f) (F : FnOk X.prog X.w X.K X.mg X.base (L2N.CX X.prog X.w) k f fd ps sp) (hr : Room (k + 1) X.A) (hg : Gl X x) (hm : X.mg x = some (.ref C)) (hb : Binds X.K fd ps []) (tk : L2N.Takes X W)
    (ha : PA X (e :: es) t) (hdb : (x == ("__debug__" : Str)) = false := by decide) (he : starEach (e :: es) X.env = (false, eval e X.env) :: starEach es X.env := by rfl) (hpl : (backTo pos (starEach es X.env)).any (·.1) = false := by rfl) :
    PE X (.Call (.Name x p) (e :: es) [] pos) (tMakeX C sp W t) := ⟨fun pins s σ H Q I h => by
  refine wpAny_Call_Name_kw (ld_glob I hg hm (PySem.W.callWith_K (h₀ := X.base) I.ok.mod.kin M.kp (thn (ha.run pos pins s σ H _ I h) ?_) he hpl) hdb)
  rintro us s1 ⟨vs, H1, I1, rel, q⟩
  refine ⟨I1.kIn, ?_⟩
  have good := q (s1.heap.objs.size + 1) s1.heap.objs.size (I1.hok.fresh (Nat.le_succ _)) (I1.hok.fresh (Nat.le_refl _)) (Nat.ne_of_lt (Nat.lt_succ_self _))
  have J := Inv.made (C := C) I1
  have all : Vals (V.ref (s1.heap.objs.size + 1) :: vs) (Value.ref (s1.heap.objs.size + 1) :: us) := .cons rfl rel
  have count : (Value.ref (s1.heap.objs.size + 1) :: us).length = ps.length := all.length.symm.trans (F.len _ _ _ _ good)
  have bound := hb _ (Value.ref (s1.heap.objs.size + 1) :: us) J.kIn (by rw [List.append_nil]; exact count)
  rw [List.append_nil] at bound
  refine wpAny_call (make_map (f := f) I1.kIn M.makes M.init (beq_iff_eq.mp M.fn) (codeAny_mono (F.run _ X.stack _ _ ⟨Value.ref (s1.heap.objs.size + 1) :: us, []⟩ _ _ _ _ (hr.make C us []) (J.env0.make C us []) bound all good) ?_))
  rintro (er | _ | _ | _ | u) s' out
  · exact tk er s' (L2N.XE.of_call J (fun _ _ _ z => z) out)
  · exact False.elim out
  · exact False.elim out
  · exact False.elim out
  obtain ⟨_, H', I3, rv, rfl, done⟩ := J.after out
  exact ⟨rv, .ref (s1.heap.objs.size + 1), H', I3, rfl, done⟩⟩
/-- o.m(e, ..) -/
def tMethX (C : Addr) (m : Str) (sp : Sp) (W : WX) (ta : TE) (t : TA) : TE := fun σ H Q => ta σ H fun x H1 => ∃ a dx fs, x = .ref a ∧ H1 a = some (.ins C dx fs) ∧ fs.lookup m = none ∧ t σ H1 fun vs H2 => sp (x :: vs) H2 Q fun cls d H' => W cls d σ H'
theorem pe_methX {pl : Sem Bool} (he : PE X o ta) (c : Cls X.K C) (hm : Meth X.K C m f) (F : FnOk X.prog X.w X.K X.mg X.base (L2N.CX X.prog X.w) k f fd ps sp) (hr : Room k X.A) (hb : Binds X.K fd ps []) (tk : L2N.Takes X W) (ha : PA X (e :: es) t)
    (hst : starEach (e :: es) X.env = (false, eval e X.env) :: starEach es X.env := by rfl) (hpl : (backTo pos (starEach es X.env)).any (·.1) = false := by rfl)
    (ht : Reads X o m apos (e :: es) [] pos pl := by intro _ _ _ h; exact PySem.W.methodCall_KW h) :
    PE X (.Call (.Attribute o m apos) (e :: es) [] pos) (tMethX C m sp W ta t) := ⟨fun pins s σ H Q I h => by
  refine ht (thn (he.run pins s σ H _ I h) ?_)
  rintro _ s1 ⟨_, H1, I1, rx, a, dx, fs, rfl, here, no, q⟩
  cases rx
  refine getmeth_ok I1 here c hm no (PySem.W.callWith_K (first := [.ref a]) (h₀ := X.base) I.ok.mod.kin hm.kp (thn (ha.run pos pins s1 σ H1 _ I1 q) ?_) hst hpl)
  rintro us s2 ⟨vs, H2, I2, rel, good⟩
  exact ⟨I2.kIn, run_fnS (us := .ref a :: us) (vs := .ref a :: vs) (E := WE W) F hr hb (L2N.passAt tk σ) I2 (.cons rfl rel) good⟩⟩
end
section
variable {X : Cx} {W : WX} {k : Nat} {f C : Addr} {fd : FuncData} {ps ks : List Str} {sp : Sp} {m : Str} {pos apos : Pos} {o : Expr} {ta : TE} {tk : TA} {kws : List Keyword} {g : List Value → List Value → List Value} {gV : List V → List V → List V}
/-- o.m(k = v, ..) -/
def tMethKX (C : Addr) (m : Str) (n : Nat) (sp : Sp) (gV : List V → List V → List V) (W : WX) (ta : TE) (tk : TA) : TE := fun σ H Q => ta σ H fun x H1 => ∃ a dx fs, x = .ref a ∧ H1 a = some (.ins C dx fs) ∧ fs.lookup m = none ∧ tk σ H1 fun zs H2 => zs.length = n ∧ sp (gV [x] zs) H2 Q fun cls d H' => W cls d σ H'
theorem pe_methKX {pl : Sem Bool} {CX : CXT} (he : PE X o ta) (c : Cls X.K C) (hm : Meth X.K C m f) (F : FnOk X.prog X.w X.K X.mg X.base CX k f fd ps sp) (hr : Room k X.A) (hb : KBn X.K fd ps 1 ks g gV) (hx : ∀ σ, PassesAt CX X σ (WE W σ)) (hkw : PK X kws tk)
    (hall : (backToKw pos (keywordEach kws X.env)).all (·.1.isSome) = true := by rfl) (hks : (backToKw pos (keywordEach kws X.env)).filterMap (·.1) = ks := by rfl)
    (hpl : ((backTo pos (starEach [] X.env)).any (·.1) || (backToKw pos (keywordEach kws X.env)).any (·.1.isNone)) = false := by rfl)
    (ht : Reads X o m apos [] kws pos pl := by intro _ _ _ h; exact PySem.W.methodCall_KW h) :
    PE X (.Call (.Attribute o m apos) [] kws pos) (tMethKX C m ks.length sp gV W ta tk) := ⟨fun pins s σ H Q I h => by
  refine ht (thn (he.run pins s σ H _ I h) ?_)
  rintro _ s1 ⟨_, H1, I1, rx, a, dx, fs, rfl, here, no, q⟩
  cases rx
  refine getmeth_ok I1 here c hm no (PySem.W.callWith_KW0 (first := [.ref a]) (h₀ := X.base) I.ok.mod.kin hm.kp hall (thn (hkw.run pos pins s1 σ H1 _ I1 q) ?_) hpl)
  rintro ws s2 ⟨zs, H2, I2, rel, count, good⟩
  refine ⟨I2.kIn, ?_⟩
  rw [hks, List.append_nil]
  have one : Vals [V.ref a] [Value.ref a] := .cons rfl .nil
  refine wpAny_call (codeAny_mono (F.run X.A X.stack s2 H2 ⟨[.ref a], ks.zip ws⟩ (g [.ref a] ws) (gV [.ref a] zs) Q _ hr I2.env0 (hb.to s2 [.ref a] ws I2.kIn rfl (rel.length.symm.trans count)) (hb.rel one rel) good) ?_)
  rintro (er | _ | _ | _ | u) s' out
  · exact hx σ pins H2 s2 er s' I2 out
  · exact False.elim out
  · exact False.elim out
  · exact False.elim out
  · exact I2.after out⟩
end
/-! ### what is let out by nobody, what is hot -/
theorem takes0 {X : Cx} : L2N.Takes X fun _ _ _ _ => False := fun _ _ ⟨_, _, _, _, _, _, _, _, _, _, _, _, _, _, _, _, no⟩ => no.elim
theorem passF {X : Cx} : Passes (L2N.CX X.prog X.w) X fun _ _ _ => False := fun _ _ _ _ _ _ _ ⟨_, _, _, _, _, _, _, _, _, _, _, _, no⟩ => no.elim
theorem hot1 {A : Around} {a : Addr} {oe : Obj} {cls : Value} {d : Option Addr} (hz : L2N.Zn cls d oe) (hf : ∃ vs, oe.data = .fields vs) : L2H.Hot1 (A.mark (some (.ref a))) (a, oe) := by
  obtain ⟨vs, hd⟩ := hf
  exact ⟨rfl, vs, hd, hz.2.2 vs hd⟩
/-! ### len of an own instance -/
section
variable {X : Cx} {CX : CXT} {n : Nat} {f C : Addr} {fd : FuncData} {ps : List Str} {sp : Sp} {E : XK}
def rLenO (C : Addr) (sp : Sp) (E : XK) : List V → Hp → VK → Prop := fun xs H Q => ∃ a dx fs, xs = [.ref a] ∧ H a = some (.ins C dx fs) ∧ sp xs H (fun v H' => ∃ z : Nat, v = .int z ∧ z ≤ 1000 ∧ Q (.int z) H') E
theorem call_lenO (F : FnOk X.prog X.w X.K X.mg X.base CX n f fd ps sp) (hs : PySem.W.findIn X.K (.ref C) "__len__" = some (some (.ref f))) (hf : PySem.W.isFn X.K (.ref f) = true) (hb : Binds X.K fd ps []) (hx : Passes CX X E) (hr : Room (n + 1) X.A) :
    CallR X (.builtin "len") (rLenO C sp E) := fun pins s σ H xs us Q I r h => by
  obtain ⟨a, dx, fs, rfl, ha, q⟩ := h
  cases Vals.ref1 r
  obtain ⟨mA, J, _⟩ := ins_get I.hok ha
  obtain ⟨od, J, _⟩ := J.look
  obtain ⟨m, fr⟩ := I.fr
  have sb : L2.Sub X (n + 1) X.A := ⟨hr, rfl⟩
  refine PySem.W.len_K fr I.ok.mod.kin J hs hf (wpAny_mono (UO.call_sub F hb hx sb.in1 I (show Vals [V.ref a] [Value.ref a] from .cons rfl .nil) q) ?_ fun _ _ x => x)
  rintro v s' ⟨_, H', I', rv, z, rfl, few, done⟩
  obtain ⟨t, rfl⟩ := rv
  exact ⟨⟨by omega, by omega⟩, .int z, H', I'.tok _, ⟨_, rfl⟩, done⟩
end
/-! ### what the top leaves of an own exception class -/
def leTail : List Value := [.type "LookupError", .type "Exception", .type "BaseException", .type "object"]
def ownB (K : PySem.W.Frag) (C f : Addr) (bmB : List Value) (newId : String) : Bool :=
  PySem.W.excInitIn K C bmB newId && (PySem.W.excOver K C bmB && (PySem.W.hasDictIn K C && (decide (PySem.W.findIn K (.ref C) "__setattr__" = some (some (.builtin "object.__setattr__"))) && (decide (PySem.W.subIn K (.ref C) (.type "BaseException") = some true) &&
    (decide (PySem.W.typeIn K (.ref C) = some (.type "type")) && (PySem.W.keepIn K (.ref C) && (decide (PySem.W.findIn K (.ref C) "__init__" = some (some (.ref f))) && decide (PySem.W.typeIn K (.ref f) = some (.type "function")))))))))
structure OwnY (K : PySem.W.Frag) (C f : Addr) (B newId initId : String) (bmB : List Value) : Prop where
  own : OwnX K C B newId initId bmB
  init : PySem.W.findIn K (.ref C) "__init__" = some (some (.ref f))
  fn : PySem.W.typeIn K (.ref f) = some (.type "function")
theorem ownB_ok {K : PySem.W.Frag} {C f : Addr} {B newId initId : String} {bmB : List Value} (base : UE.BaseM newId initId bmB) (store : StoreFacts B bmB "object.__setattr__" "object") (h : ownB K C f bmB newId = true) : OwnY K C f B newId initId bmB := by
  unfold ownB at h
  simp only [Bool.and_eq_true, decide_eq_true_eq] at h
  obtain ⟨h1, h2, h3, h4, h5, h6, h7, h8, h9⟩ := h
  exact ⟨⟨base, store, h1, h2, h3, h4, h5, h6, h7⟩, h8, h9⟩
def asksB (K : PySem.W.Frag) (C : Addr) : Bool :=
  decide (PySem.W.findIn K (.ref C) "__getattribute__" = some (some (.builtin "BaseException.__getattribute__"))) && (decide (PySem.W.findIn K (.ref C) "__getattr__" = some none) && (decide (PySem.W.subIn K (.ref C) (.type "BaseException") = some true) && (PySem.W.hasDictIn K C &&
    (decide (PySem.W.findIn K (.ref C) "__class__" = some (some (.builtin "object.__class__"))) && (decide (PySem.W.specialIn K (.builtin "object.__class__") "__get__" = some (some (.builtin "getset_descriptor.__get__"))) && (decide (PySem.W.takesIn K (.builtin "object.__class__") = some true) &&
      (decide (PySem.W.mroIn K C (.type "object") = some true) && decide (PySem.W.exmOne K (.ref C) (.ref C) = some true))))))))
structure Asks (K : PySem.W.Frag) (C : Addr) : Prop where
  is : L2.ExcC K C
  fld : XfC K C
  exm : PySem.W.exmOne K (.ref C) (.ref C) = some true
theorem asksB_ok {K : PySem.W.Frag} {C : Addr} (h : asksB K C = true) : Asks K C := by
  unfold asksB at h
  simp only [Bool.and_eq_true, decide_eq_true_eq] at h
  obtain ⟨h1, h2, h3, h4, h5, h6, h7, h8, h9⟩ := h
  exact ⟨⟨h1, h2, h3, h4, h5, h6, h7, h8⟩, ⟨h1, h2, h3, h4⟩, h9⟩
def noB (K : PySem.W.Frag) (C : Addr) (f : Str) : Bool := decide (PySem.W.findIn K (.ref C) f = some none)
def kitB (K : PySem.W.Frag) (C : Addr) (c : Value) (b : Bool) : Bool := decide (PySem.W.kitOne K (.ref C) c = some b)
end UX
namespace UX
open PySem PySem.Spec PyProof.Rows L2
theorem passAt0 {X : Cx} {σ : L2.St} : PassesAt CX0 X σ (WE (fun _ _ _ _ => False) σ) := fun _ _ _ _ _ _ no => no.elim
/-- with a lock or, where another holds one already, without -/
def tLkE (t : TE) : TE := fun σ H Q => tLockE t σ H Q ∨ t σ H Q
theorem pe_lk {X : Cx} {e : Expr} {t : TE} (h : PE X e t) : PE X e (tLkE t) := ⟨fun pins s σ H Q I hw => hw.elim ((pe_lock h).run pins s σ H Q I) (h.run pins s σ H Q I)⟩
/-- which __init__ a built-in class has -/
def viB (K : PySem.W.Frag) (b i : String) : Bool := match PySem.W.findCls K (.type b) (.type "type") "__init__" with
  | some (.val v) => decide (v = .builtin i)
  | _ => false
theorem viB_ok {K : PySem.W.Frag} {b i : String} (h : viB K b i = true) : PySem.W.findCls K (.type b) (.type "type") "__init__" = some (.val (.builtin i)) := by
  unfold viB at h
  split at h
  · rename_i v e
    rw [e, of_decide_eq_true h]
  · cases h
/-! ### bool of an own instance that has a len -/
section
variable {X : Cx} {CX : CXT} {n : Nat} {f C : Addr} {fd : FuncData} {ps : List Str} {sp : Sp} {E : XK}
def rBoolO (C : Addr) (sp : Sp) (E : XK) : List V → Hp → VK → Prop := fun xs H Q => ∃ a dx fs, xs = [.ref a] ∧ H a = some (.ins C dx fs) ∧ sp xs H (fun v H' => ∃ z : Nat, v = .int z ∧ z ≤ 1000 ∧ Q (.bl ((z : Int) != 0)) H') E
/-- whether it is so, by its len -/
theorem truthy_len {prog : Program} {w : World} {A : Around} {K : PySem.W.Frag} {s : Shared} {a C f : Addr} {ox : Obj} {od : Option Obj} {Q : Bool → Shared → Prop} {E : Value → Shared → Prop} (X : K.In s.heap) (I : PySem.W.InstAt s.heap a ox C od)
    (hb : PySem.W.findIn K (.ref C) "__bool__" = some none) (hs : PySem.W.findIn K (.ref C) "__len__" = some (some (.ref f))) (hf : PySem.W.isFn K (.ref f) = true)
    (h : wpAny (model prog w) A.in1 (call (.ref f) [.ref a]) (fun r s' => ∃ (z : Nat) (t : Tok), r = .int z t ∧ z ≤ 1000 ∧ ∀ tk, Q ((z : Int) != 0) { s' with toks := tk }) E s) : wpAny (model prog w) A (truthy (.ref a)) Q E s := by
  have no : ∀ {Q' : Option Value → Shared → Prop}, Q' none s → wpAny (model prog w) A (specialOf (.ref a) "__bool__") Q' E s := fun q => wpAny_bind (I.type.here ((PySem.W.looks_findIn X hb).here q))
  have yes : ∀ {Q' : Option Value → Shared → Prop}, Q' (some (.ref f)) s → wpAny (model prog w) A (specialOf (.ref a) "__len__") Q' E s := fun q => wpAny_bind (I.type.here ((PySem.W.looks_findIn X hs).here q))
  have len : wpAny (model prog w) A.in1 (Builtin.«len» ⟨[.ref a], []⟩) (fun fin s' => ∃ v, fin = .done (.ret v) ∧ ∃ (z : Nat) (t : Tok), v = .int z t ∧ Q ((z : Int) != 0) s') E s := by
    unfold Builtin.«len»
    refine wpAny_bind (m := oneArg _ _) (wpAny_pure (wpAny_bind (m := callSpecial? _ _) (PySem.W.special_fn X I hs (beq_iff_eq.mp hf) (wpAny_mono h ?_ fun _ _ y => y))))
    rintro r s' ⟨z, t, rfl, few, done⟩
    have n0 : ¬ (z : Int) < 0 := by omega
    have n1 : ¬ (z : Int) ≥ 2 ^ 63 := by omega
    refine wpAny_bind (wpAny_holding (wpAny_pure (wpAny_bind (wpAny_letGo ?_))))
    dsimp only
    rw [if_neg n0, if_neg n1]
    exact wpAny_bind (wpAny_mkInt (wpAny_pure ⟨_, rfl, z, _, rfl, done _⟩))
  unfold truthy
  refine wpAny_bind (m := callSpecial? _ _) (wpAny_bind (no (wpAny_pure (wpAny_bind (yes ?_)))))
  rw [if_neg (by simp)]
  refine wpAny_bind (PyProof.Rows.runValue_entry PySem.entry_len ?_)
  rw [Around.under_plainId PySem.plain_len _]
  refine wpAny_mono len ?_ fun _ _ y => y
  rintro fin s' ⟨v, rfl, z, t, rfl, done⟩
  exact ⟨_, rfl, wpAny_pure done⟩
theorem call_boolO (F : FnOk X.prog X.w X.K X.mg X.base CX n f fd ps sp) (hno : PySem.W.findIn X.K (.ref C) "__bool__" = some none) (hs : PySem.W.findIn X.K (.ref C) "__len__" = some (some (.ref f))) (hf : PySem.W.isFn X.K (.ref f) = true) (hb : Binds X.K fd ps []) (hx : Passes CX X E) (hr : Room (n + 4) X.A) :
    CallR X (.type "bool") (rBoolO C sp E) := fun pins s σ H xs us Q I r h => by
  obtain ⟨a, dx, fs, rfl, ha, q⟩ := h
  cases Vals.ref1 r
  refine PySem.callType_newIn PySem.F.called_bool PySem.F.newNe_bool (PySem.F.typeCall_bool_1 _) (PySem.F.newCall_bool_1 _) (fun obj => PySem.F.args_object_init_2 obj _) PySem.F.entry_bool_new (S := fun A R s => wpAny (model X.prog X.w) A.in1 (truthy (.ref a)) (fun b s' => R (.ok (.ret (.bool b))) s') (fun e s' => R (.error e) s') s) (MeetsIn.of_wp fun A R s hs' => ?_) ?_
  · obtain ⟨hp, g, d, tk, os⟩ := s
    have f1 := PySem.F.conv_sub_bool
    repeat (any_goals (first | assumption | (with_reducible refine wpAny_mono hs' (fun b s' hb => ?_) fun _ _ x => x) | wp_step))
    all_goals first | exact ⟨_, rfl, hb⟩ | skip
  · obtain ⟨mA, J, _⟩ := ins_get I.hok ha
    obtain ⟨od, J, _⟩ := J.look
    have sb : L2.Sub X (n + 4) X.A := ⟨hr, rfl⟩
    refine truthy_len I.kIn J hno hs hf (wpAny_mono (UO.call_sub F hb hx (sb.in1.in1.in1.mono (Nat.le_succ _)) I (show Vals [V.ref a] [Value.ref a] from .cons rfl .nil) q) ?_ fun _ _ x => x)
    rintro v s' ⟨_, H', I', rv, z, rfl, few, done⟩
    obtain ⟨t, rfl⟩ := rv
    exact ⟨z, t, rfl, few, fun tk => ⟨rfl, .bl _, H', I'.tok _, rfl, done⟩⟩
end
/-- a built-in method's reading, by the fragment's own name (within a comprehension) -/
theorem pe_bmAs {X : Cx} {K : PySem.W.Frag} {e : Expr} {T : String} {r : V → List V → Hp → VK → Prop} {to : TE} {t : TA} (hK : X.K = K) (h : PE X e (tBM X.K T r to t)) : PE X e (tBM K T r to t) := hK ▸ h
/-! ### an own class whose __init__ is that of its built-in base -/
section
variable {X : Cx} {e : Expr} {es : List Expr} {ta : TA} {x : Str} {p1 p2 pos : Pos} {B newId initId : String} {bmB : List Value}
/-- D.__init__(self, ..), D an own class that has its __init__ of the built-in class B -/
theorem pe_initO {pl : Sem Bool} {D : Addr} (hg : Gl X x) (hm : X.mg x = some (.ref D)) (rd : PySem.W.readsIn X.K D (.type "type") = true) (ga : PySem.W.specialIn X.K (.ref D) "__getattribute__" = some (some (.builtin "type.__getattribute__"))) (at_ : PySem.W.findCls X.K (.ref D) (.type "type") "__init__" = some (.val (.builtin initId))) (hi : PySem.W.handedIn (.builtin initId) = true) (ha : PA X (e :: es) ta)
    (hc : Reads X (.Name x p1) "__init__" p2 (e :: es) [] pos pl := by intro _ _ _ h; exact PySem.W.methodCall_KW h)
    (hdb : (x == ("__debug__" : Str)) = false := by decide) (he : starEach (e :: es) X.env = (false, eval e X.env) :: starEach es X.env := by rfl) (hpl : (backTo pos (starEach es X.env)).any (·.1) = false := by rfl) : PE X (.Call (.Attribute (.Name x p1) "__init__" p2) (e :: es) [] pos) (tInit X.K B newId initId bmB ta) := ⟨fun pins s σ H Q I h => by
  refine hc (ld_glob I hg hm ?_ hdb)
  refine PySem.W.method_cls I.kIn ga (PySem.W.cls_value I.kIn rd at_ hi ?_)
  refine callWith_method1 (thn (ha.run pos pins _ σ H _ (I.tok _) h) ?_) he hpl
  rintro us s1 ⟨_, H1, I1, rel, a, C, ws, rfl, few, T, here, q⟩
  cases rel with
  | cons ra rest =>
    cases ra
    exact init1 T I1 here (by rw [← Paired.length rest, sizeLine_eq]; omega) fun s' J => ⟨.non, H1, J, rfl, q⟩⟩
end
def veTail : List Value := [.type "ValueError", .type "Exception", .type "BaseException", .type "object"]
/-- what D.__init__ comes to -/
def baseB (K : PySem.W.Frag) (D : Addr) (i : String) : Bool := PySem.W.readsIn K D (.type "type") && (decide (PySem.W.specialIn K (.ref D) "__getattribute__" = some (some (.builtin "type.__getattribute__"))) && (match PySem.W.findCls K (.ref D) (.type "type") "__init__" with
  | some (.val v) => decide (v = .builtin i)
  | _ => false))
structure BaseY (K : PySem.W.Frag) (D : Addr) (i : String) : Prop where
  rd : PySem.W.readsIn K D (.type "type") = true
  ga : PySem.W.specialIn K (.ref D) "__getattribute__" = some (some (.builtin "type.__getattribute__"))
  at_ : PySem.W.findCls K (.ref D) (.type "type") "__init__" = some (.val (.builtin i))
theorem baseB_ok {K : PySem.W.Frag} {D : Addr} {i : String} (h : baseB K D i = true) : BaseY K D i := by
  unfold baseB at h
  obtain ⟨h1, h⟩ := He.ba h
  obtain ⟨h2, h3⟩ := He.ba h
  refine ⟨h1, of_decide_eq_true h2, ?_⟩
  split at h3
  · rename_i v e
    rw [e, of_decide_eq_true h3]
  · cases h3
/-! ### a Hook whose fragment holds the interpreter's own statics too -/
def frC (n : Nat) (g : Addr → Option Obj) : PySem.W.Frag := He.frG g (He.asD g n ++ [cStatics])
def obsC (n : Nat) (fa : List He.Fa) (fn : List He.DefD) (ex : PySem.W.Frag → Bool) (g : Addr → Option Obj) : UO.AlB := (He.obsD fa fn (frC n g), ex (frC n g))
def hookC (n : Nat) (fa : List He.Fa) (fn : List He.DefD) (ex : PySem.W.Frag → Bool) : PySem.W.Hook where
  α := UO.AlB
  obs := fun s => obsC n fa fn ex s.heap.get?
  val := fun _ => (He.valD fn, true)
  says := fun _ h => ∃ K : PySem.W.Frag, K.In h ∧ He.SaysD fa fn K ∧ ex K = true
  of := fun _ _ e => ⟨_, He.frG_in, congrArg (fun z : UO.AlB => z.1) e, congrArg (fun z : UO.AlB => z.2) e⟩
  keeps := fun _ _ _ ⟨K, hK, c⟩ k => ⟨K, PySem.W.Frag.In.keeps hK k, c⟩
theorem obsC_eq {n : Nat} {fa : List He.Fa} {fn : List He.DefD} {ex : PySem.W.Frag → Bool} {g : Addr → Option Obj} {s : Shared} (h : ∀ a, g a = s.heap.get? a) : obsC n fa fn ex g = (hookC n fa fn ex).obs s := by
  obtain rfl : g = s.heap.get? := funext h
  rfl
end UX
/-! own layer: sets of texts put together and taken from one another: xs | ys, xs - ys -/
set_option maxHeartbeats 1600000
namespace UV
open PySem
/-! ### where a clean table lays its entries -/
/-- so many leaps from a place -/
def goOn (m : Nat) : Nat × Nat → Nat → Nat × Nat
  | q, 0 => q
  | q, n + 1 => goOn m (SetTable.leap m q.1 q.2) n
theorem goOn_add (m : Nat) : ∀ (a c : Nat) (q : Nat × Nat), goOn m q (a + c) = goOn m (goOn m q a) c
  | 0, c, q => by rw [Nat.zero_add]; rfl
  | a + 1, c, q => by
    rw [Nat.succ_add]
    exact goOn_add m a c _
theorem goOn_rest (m : Nat) : ∀ (n : Nat) (q : Nat × Nat), (goOn m q n).2 = q.2 / 32 ^ n
  | 0, q => by simp [goOn]
  | n + 1, q => by
    have := goOn_rest m n (SetTable.leap m q.1 q.2)
    rw [Nat.pow_succ, Nat.mul_comm, ← Nat.div_div_eq_div_mul]
    exact this
theorem goOn_le (m : Nat) : ∀ (n : Nat) (q : Nat × Nat), q.1 ≤ m → (goOn m q n).1 ≤ m
  | 0, q, h => h
  | n + 1, q, _ => goOn_le m n _ (Nat.le_of_lt_succ (Nat.mod_lt _ (Nat.succ_pos m)))
/-- the sizes (less one) of the tables that are met here -/
def Msk (m : Nat) : Prop := m = 7 ∨ m = 15 ∨ m = 31 ∨ m = 63 ∨ m = 127
def tour (m : Nat) : Nat → Nat × Nat → List Nat
  | 0, _ => []
  | n + 1, q => q.1 :: tour m n (SetTable.leap m q.1 q.2)
theorem tour_mem (m : Nat) : ∀ (n : Nat) (q : Nat × Nat) (j : Nat), j ∈ tour m n q → ∃ c, c < n ∧ (goOn m q c).1 = j
  | n + 1, q, j, h => by
    rcases List.mem_cons.mp h with e | e
    · exact ⟨0, Nat.succ_pos n, e.symm⟩
    · obtain ⟨c, h1, h2⟩ := tour_mem m n _ j e
      exact ⟨c + 1, Nat.succ_lt_succ h1, h2⟩
/-- from the first place on all places are met, and the way is round -/
def roundB (m : Nat) : Bool := (goOn m (0, 0) (m + 1) == (0, 0)) && (List.range (m + 1)).all fun j => (tour m (m + 1) (0, 0)).contains j
theorem round_of {m : Nat} (h : Msk m) : roundB m = true := by
  rcases h with rfl | rfl | rfl | rfl | rfl <;> decide +kernel
theorem from_zero {m j : Nat} (hm : Msk m) (hj : j ≤ m) : ∃ c, c ≤ m ∧ (goOn m (0, 0) c).1 = j := by
  have two := Bool.and_eq_true_iff.mp (round_of hm)
  have has := List.all_eq_true.mp two.2 j (List.mem_range.mpr (Nat.lt_succ_of_le hj))
  obtain ⟨c, h1, h2⟩ := tour_mem m _ _ j (List.contains_iff_mem.mp has)
  exact ⟨c, Nat.le_of_lt_succ h1, h2⟩
theorem from_any {m i j : Nat} (hm : Msk m) (hi : i ≤ m) (hj : j ≤ m) : ∃ c, c ≤ m ∧ (goOn m (i, 0) c).1 = j := by
  obtain ⟨a, a1, a2⟩ := from_zero hm hi
  obtain ⟨b, b1, b2⟩ := from_zero hm hj
  have home : goOn m (0, 0) (m + 1) = (0, 0) := eq_of_beq (Bool.and_eq_true_iff.mp (round_of hm)).1
  have here : goOn m (0, 0) a = (i, 0) := by
    have rest := goOn_rest m a (0, 0)
    rw [Nat.zero_div] at rest
    exact Prod.ext a2 rest
  by_cases le : a ≤ b
  · refine ⟨b - a, by omega, ?_⟩
    rw [← here, ← goOn_add, Nat.add_sub_cancel' le]
    exact b2
  · refine ⟨m + 1 + b - a, by omega, ?_⟩
    rw [← here, ← goOn_add, Nat.add_sub_cancel' (by omega), goOn_add, home]
    exact b2
theorem meets {m j : Nat} (hm : Msk m) (h : Int) (hj : j ≤ m) : ∃ k, k < SetTable.turns m ∧ (goOn m (SetTable.bits h % (m + 1), SetTable.bits h) k).1 = j := by
  have small : SetTable.bits h < 2 ^ 64 := by
    unfold SetTable.bits
    have := Int.emod_lt_of_pos h (show (0 : Int) < 2 ^ 64 by decide)
    have := Int.emod_nonneg h (show (2 ^ 64 : Int) ≠ 0 by decide)
    omega
  generalize SetTable.bits h = b at small ⊢
  have rest := goOn_rest m 13 (b % (m + 1), b)
  have none : b / 32 ^ 13 = 0 := Nat.div_eq_of_lt (Nat.lt_of_lt_of_le small (by decide))
  have le := goOn_le m 13 (b % (m + 1), b) (Nat.le_of_lt_succ (Nat.mod_lt _ (Nat.succ_pos m)))
  obtain ⟨c, c1, c2⟩ := from_any hm le hj
  refine ⟨13 + c, by unfold SetTable.turns; omega, ?_⟩
  rw [goOn_add]
  have e : goOn m (b % (m + 1), b) 13 = ((goOn m (b % (m + 1), b) 13).1, 0) := Prod.ext rfl (rest.trans none)
  rw [e]
  exact c2
/-! ### a free place is found, and it is free -/
theorem find_some {m : Nat} {owner : Array (Option Nat)} : ∀ (n k : Nat) (q : Nat × Nat), k < n → (owner.getD (goOn m q k).1 (some 0)).isNone = true → ∃ j, SetTable.layClean.free m owner n q.1 q.2 = some j
  | n + 1, k, q, lt, no => by
    unfold SetTable.layClean.free
    split
    · exact ⟨_, rfl⟩
    · rename_i all
      cases k with
      | zero =>
        have ge : q.1 ≤ SetTable.runEnd m q.1 := by
          unfold SetTable.runEnd
          split <;> omega
        have := List.find?_eq_none.mp all 0 (List.mem_range.mpr (by omega))
        rw [Nat.add_zero] at this
        exact absurd no this
      | succ k => exact find_some n k (SetTable.leap m q.1 q.2) (Nat.lt_of_succ_lt_succ lt) no
theorem find_free {m : Nat} {owner : Array (Option Nat)} {j : Nat} : ∀ (n i p : Nat), SetTable.layClean.free m owner n i p = some j → (owner.getD j (some 0)).isNone = true
  | 0, i, p, h => by
    unfold SetTable.layClean.free at h
    cases h
  | n + 1, i, p, h => by
    unfold SetTable.layClean.free at h
    split at h
    · rename_i k found
      cases h
      exact (List.find?_some (p := fun k => (owner.getD (i + k) (some 0)).isNone) found)
    · exact find_free n _ _ h
/-! ### the entries, one behind another -/
/-- the owners of the places: each of the first k once -/
def Held (m : Nat) (owner : Array (Option Nat)) (k : Nat) : Prop := owner.size = m + 1 ∧ (owner.toList.filterMap id).Perm (List.range k)
theorem gap : ∀ l : List (Option Nat), (l.filterMap id).length < l.length → ∃ j : Nat, l[j]? = some none
  | none :: l, _ => ⟨0, rfl⟩
  | some x :: l, h => by
    have h : (l.filterMap id).length + 1 < l.length + 1 := h
    obtain ⟨j, hj⟩ := gap l (Nat.lt_of_succ_lt_succ h)
    exact ⟨j + 1, hj⟩
theorem filled (k : Nat) : ∀ (l : List (Option Nat)) (j : Nat), l[j]? = some none → ((l.set j (some k)).filterMap id).Perm (k :: l.filterMap id)
  | x :: l, 0, h => by
    cases h
    exact List.Perm.refl _
  | none :: l, j + 1, h => filled k l j h
  | some y :: l, j + 1, h => by
    exact ((filled k l j h).cons y).trans (List.Perm.swap k y _)
theorem at_none {owner : Array (Option Nat)} {j : Nat} (h : (owner.getD j (some 0)).isNone = true) : owner.toList[j]? = some none := by
  rw [Array.getD_eq_getD_getElem?] at h
  rw [Array.getElem?_toList]
  cases e : owner[j]? with
  | none => rw [e] at h; cases h
  | some o =>
    rw [e] at h
    cases o with
    | none => rfl
    | some _ => cases h
def lay1 (m : Nat) (acc : Option (Array (Option Nat) × Nat)) (h : Int) : Option (Array (Option Nat) × Nat) := do
  let (owner, k) ← acc
  let j ← SetTable.layClean.free m owner (SetTable.turns m) (SetTable.bits h % (m + 1)) (SetTable.bits h)
  pure (owner.setIfInBounds j (some k), k + 1)
theorem lay1_held {m k : Nat} {owner : Array (Option Nat)} (hm : Msk m) (H : Held m owner k) (le : k ≤ m) (h : Int) : ∃ owner', lay1 m (some (owner, k)) h = some (owner', k + 1) ∧ Held m owner' (k + 1) := by
  obtain ⟨size, each⟩ := H
  have fewer : (owner.toList.filterMap id).length < owner.toList.length := by
    rw [each.length_eq, List.length_range, Array.length_toList, size]
    omega
  obtain ⟨j0, hj0⟩ := gap _ fewer
  have in0 : j0 ≤ m := by
    have := (List.getElem?_eq_some_iff.mp hj0).1
    rw [Array.length_toList, size] at this
    omega
  obtain ⟨c, c1, c2⟩ := meets hm h in0
  obtain ⟨j, hj⟩ := find_some (owner := owner) _ c _ c1 (by
    rw [c2, Array.getD_eq_getD_getElem?, ← Array.getElem?_toList, hj0]
    rfl)
  have open_ := at_none (find_free _ _ _ hj)
  refine ⟨owner.setIfInBounds j (some k), ?_, by rw [Array.size_setIfInBounds]; exact size, ?_⟩
  · unfold lay1
    show (SetTable.layClean.free m owner (SetTable.turns m) (SetTable.bits h % (m + 1)) (SetTable.bits h)).bind _ = _
    rw [hj]
    rfl
  · rw [Array.toList_setIfInBounds, List.range_succ]
    exact (filled k _ j open_).trans ((each.cons k).trans (List.perm_append_singleton k _).symm)
theorem lay_held {m : Nat} (hm : Msk m) : ∀ (hs : List Int) (owner : Array (Option Nat)) (k : Nat), Held m owner k → k + hs.length ≤ m + 1 → ∃ owner', hs.foldl (lay1 m) (some (owner, k)) = some (owner', k + hs.length) ∧ Held m owner' (k + hs.length)
  | [], owner, k, H, _ => ⟨owner, rfl, H⟩
  | h :: hs, owner, k, H, le => by
    rw [List.length_cons] at le
    obtain ⟨o1, e1, H1⟩ := lay1_held hm H (by omega) h
    obtain ⟨o2, e2, H2⟩ := lay_held hm hs o1 (k + 1) H1 (by omega)
    rw [Nat.add_assoc, Nat.add_comm 1] at e2 H2
    exact ⟨o2, by rw [List.foldl_cons, e1]; exact e2, H2⟩
theorem live_owners (l : List (Option Nat)) : ((List.range l.length).filterMap fun j => (l[j]?.getD none).map (j, ·)).map (·.2) = l.filterMap id := by
  rw [List.map_filterMap]
  have e := List.filterMap_getElem?_range_length l
  have f : l.filterMap id = ((List.range l.length).filterMap (fun i => l[i]?)).filterMap id := by rw [e]
  rw [f, List.filterMap_filterMap]
  congr 1
  funext j
  cases l[j]? with
  | none => rfl
  | some o => cases o <;> rfl
/-- a clean table for so many hashes as there is room: its order has each of them once -/
theorem laid_ok {m finger moves : Nat} {led plain : Bool} {hs : Array Int} (hm : Msk m) (few : hs.size ≤ m) :
    ∃ t order, SetTable.laid m finger moves led plain hs = some (t, order) ∧ order.toList.Perm (List.range hs.size) ∧ L2.Ris t.place.toList ∧ t.place.size = hs.size ∧ t.dummies = #[] ∧ t.mask = m ∧ t.led = led := by
  have start : Held m (Array.replicate (m + 1) none) 0 := by
    refine ⟨Array.size_replicate, ?_⟩
    rw [Array.toList_replicate]
    have : ∀ n : Nat, (List.replicate n (none : Option Nat)).filterMap id = [] := fun n => by
      induction n with
      | zero => rfl
      | succ n ih => rw [List.replicate_succ, List.filterMap_cons_none rfl, ih]
    rw [this]
    exact List.Perm.refl _
  obtain ⟨owner, e, H⟩ := lay_held hm hs.toList _ 0 start (by rw [Array.length_toList]; omega)
  rw [Nat.zero_add, Array.length_toList] at e H
  have clean : SetTable.layClean m hs = some owner := by
    unfold SetTable.layClean
    rw [← Array.foldl_toList]
    have : hs.toList.foldl (lay1 m) (some (Array.replicate (m + 1) none, 0)) = some (owner, hs.size) := e
    show (hs.toList.foldl (lay1 m) (some (Array.replicate (m + 1) none, 0))).map (·.1) = some owner
    rw [this]
    rfl
  have size : owner.toList.length = m + 1 := by rw [Array.length_toList]; exact H.1
  have owners := live_owners owner.toList
  rw [size] at owners
  have same : (fun j => (owner.getD j none).map (Prod.mk j)) = fun j => (owner.toList[j]?.getD none).map (Prod.mk j) := by
    funext j
    rw [Array.getD_eq_getD_getElem?, Array.getElem?_toList]
  have ris := (L2.ris_live (fun j => owner.getD j none) (List.range (m + 1)) List.pairwise_lt_range).1
  refine ⟨_, _, by unfold SetTable.laid; rw [clean]; rfl, ?_, ris, ?_, rfl, rfl, rfl⟩
  · show (((List.range (m + 1)).filterMap fun j => (owner.getD j none).map (Prod.mk j)).map (·.2)).Perm _
    rw [same, owners]
    exact H.2
  · show (((List.range (m + 1)).filterMap fun j => (owner.getD j none).map (Prod.mk j)).map (·.1)).length = _
    rw [List.length_map, ← List.length_map (f := (·.2)), same, owners, H.2.length_eq, List.length_range]
/-- what a size asked for comes to -/
def aboveB (n : Nat) : Bool := [7, 15, 31, 63, 127].contains (SetTable.sizeAbove n - 1) && decide (n < SetTable.sizeAbove n) && decide (SetTable.sizeAbove n ≤ 128)
theorem above_ok {n : Nat} (h : n < 128) : Msk (SetTable.sizeAbove n - 1) ∧ n ≤ SetTable.sizeAbove n - 1 ∧ SetTable.sizeAbove n ≤ 128 := by
  have all : (List.range 128).all aboveB = true := by decide +kernel
  have one := List.all_eq_true.mp all n (List.mem_range.mpr h)
  unfold aboveB at one
  rw [Bool.and_eq_true, Bool.and_eq_true] at one
  obtain ⟨⟨h1, h2⟩, h3⟩ := one
  have lt := of_decide_eq_true h2
  have le := of_decide_eq_true h3
  refine ⟨?_, by omega, le⟩
  have := List.contains_iff_mem.mp h1
  unfold Msk
  simpa using this
end UV
/-! own layer: sets of texts that can be walked: set(xs), sorted of it, xs | ys, xs - ys -/
set_option maxHeartbeats 1600000
namespace UZ
open PySem PySem.Spec PyProof.Rows L2
/-! ### the entries of a set of texts, and its table -/
def keyT (e : Int × Value) : Str := match e.2 with
  | .str x _ => x
  | _ => Str.empty
def Tx (w : World) (e : Int × Value) : Prop := ∃ x tk, e.2 = Value.str x tk ∧ e.1 = hashStr w x
/-- entries and table of a set of these texts, each once -/
structure Gd (w : World) (es : Array (Int × Value)) (t : SetTable) (xs : List Str) : Prop where
  tx : ∀ e ∈ es.toList, Tx w e
  keys : (es.toList.map keyT).Perm xs
  nd : xs.Nodup
  few : es.size < scanBound
  fit : t.fits es.size = true
  ris : Ris t.place.toList
  led : w.params.followText "set-order" = true ∨ t.led = true
/-- what stands at a: a set with these entries, this count of changes, this table -/
def At (h : Heap) (a : Addr) (es : Array (Int × Value)) (ep : Nat) (t : SetTable) : Prop := ∃ o, h.get? a = some o ∧ o.ExactSet ∧ o.data = .set es ep t
/-- the set at a: these texts, each once; its table can be walked -/
def SetT (w : World) (h : Heap) (a : Addr) (xs : List Str) : Prop := ∃ es ep t, At h a es ep t ∧ Gd w es t xs
section
variable {P : Program} {w : World} {A : Around} {E : Value → Shared → Prop} {s : Shared} {h h' : Heap} {a : Addr} {xs ys : List Str} {es fs : Array (Int × Value)} {t u : SetTable} {ep : Nat} {x : Str} {tk : Tok}
theorem At.at (R : At h a es ep t) (k : ∀ o, h.get? a = some o → h'.get? a = some o) : At h' a es ep t := by
  obtain ⟨o, ho, r⟩ := R
  exact ⟨o, k o ho, r⟩
theorem At.is (R : At s.heap a es ep t) : s.TypeIs (.ref a) "set" := by
  obtain ⟨o, ho, ex, _⟩ := R
  exact ⟨o, ho, ex.1⟩
theorem SetT.at (R : SetT w h a xs) (k : ∀ o, h.get? a = some o → h'.get? a = some o) : SetT w h' a xs := by
  obtain ⟨es, ep, t, H, G⟩ := R
  exact ⟨es, ep, t, H.at k, G⟩
theorem SetT.is (R : SetT w s.heap a xs) : s.TypeIs (.ref a) "set" := by
  obtain ⟨_, _, _, R, _⟩ := R
  exact R.is
theorem Gd.size (G : Gd w es t xs) : es.size = xs.length := by rw [← G.keys.length_eq, List.length_map, Array.length_toList]
theorem Gd.elems (G : Gd w es t xs) : ElemsOf (strKind P w) es.toList := fun e he => by
  obtain ⟨x, tk, e1, e2⟩ := G.tx e he
  rw [e1, e2]
  exact ⟨⟨x, Froz.is_str x tk, rfl⟩, rfl⟩
theorem Gd.line (G : Gd w es t xs) : es.size ≤ sizeLine := fits_of_scanBound G.few
/-- other places of the same entries -/
theorem Gd.moved (G : Gd w es t xs) (p : fs.toList.Perm es.toList) (fit : u.fits fs.size = true) (ris : Ris u.place.toList) (led : w.params.followText "set-order" = true ∨ u.led = true) : Gd w fs u xs where
  tx e he := G.tx e (p.mem_iff.mp he)
  keys := (p.map keyT).trans G.keys
  nd := G.nd
  few := by
    have := p.length_eq
    rw [Array.length_toList, Array.length_toList] at this
    exact this ▸ G.few
  fit := fit
  ris := ris
  led := led
/-- one entry more -/
theorem Gd.more (G : Gd w es t xs) (no : x ∉ xs) (room : xs.length + 1 < scanBound) (p : fs.toList.Perm (es.push (hashStr w x, .str x tk)).toList) (fit : u.fits fs.size = true) (ris : Ris u.place.toList) (led : w.params.followText "set-order" = true ∨ u.led = true) : Gd w fs u (x :: xs) := by
  rw [Array.toList_push] at p
  have q := p.trans (List.perm_append_singleton _ _)
  have keys := (q.map keyT).trans (G.keys.cons x)
  refine ⟨fun e he => ?_, keys, List.nodup_cons.mpr ⟨no, G.nd⟩, ?_, fit, ris, led⟩
  · rcases List.mem_cons.mp (q.mem_iff.mp he) with rfl | old
    · exact ⟨x, tk, rfl, rfl⟩
    · exact G.tx e old
  · have := keys.length_eq
    rw [List.length_map, Array.length_toList] at this
    rw [this]
    exact room
theorem Gd.key (G : Gd w es t xs) {e : Int × Value} (he : e ∈ es.toList) : (strKind P w).is x e.2 = true ↔ keyT e = x := by
  obtain ⟨y, tk, e1, _⟩ := G.tx e he
  unfold keyT
  rw [e1]
  show Value.isStrOf x (.str y tk) = true ↔ y = x
  simp [Value.isStrOf]
/-- where it is found -/
theorem Gd.there (G : Gd w es t xs) {j : Nat} (found : List.findIdx? (fun e => (strKind P w).is x e.2) es.toList = some j) : ∃ e, es.toList[j]? = some e ∧ keyT e = x ∧ x ∈ xs := by
  obtain ⟨lt, is, _⟩ := List.findIdx?_eq_some_iff_getElem.mp found
  have k := (G.key (List.getElem_mem lt)).mp is
  exact ⟨_, List.getElem?_eq_getElem lt, k, G.keys.mem_iff.mp (List.mem_map.mpr ⟨_, List.getElem_mem lt, k⟩)⟩
theorem Gd.gone (G : Gd w es t xs) (found : List.findIdx? (fun e => (strKind P w).is x e.2) es.toList = none) : x ∉ xs := fun z => by
  obtain ⟨e, he, k⟩ := List.mem_map.mp (G.keys.mem_iff.mpr z)
  have no := List.findIdx?_eq_none_iff.mp found e he
  rw [(G.key he).mpr k] at no
  cases no
/-! ### its parts are read, and stored -/
theorem At.state {Q : Array (Int × Value) × Nat × SetTable → Shared → Prop} (R : At s.heap a es ep t) (fit : t.fits es.size = true) (q : Q (es, ep, t) s) : wpAny (model P w) A (setState a) Q E s := by
  obtain ⟨o, ho, _, hd⟩ := R
  exact wpAny_setState_of ho hd fit q
theorem At.store {Q : Unit → Shared → Prop} (R : At s.heap a es ep t) (few : fs.size ≤ sizeLine) (q : ∀ h', Heap.SameBut a s.heap h' → At h' a fs (ep + 1) u → Q () { s with heap := h' }) : wpAny (model P w) A (storeSet a fs u) Q E s := by
  obtain ⟨o, ho, ex, hd⟩ := R
  exact wpAny_storeSet_of ho hd (q _ (Heap.SameBut.update s.heap a _) ⟨_, store_at ho hd, ex, rfl⟩) few
/-- what is found -/
theorem At.scan {Q : ScanMet → Shared → Prop} {adding : Bool} (R : At s.heap a es ep t) (G : Gd w es t xs) (yes : ∀ j e, es.toList[j]? = some e → keyT e = x → x ∈ xs → Q (.found (0 + j)) s) (no : x ∉ xs → Q .absent s) :
    wpAny (model P w) A (setScan a (.str x tk) (hashStr w x) adding es) Q E s := by
  obtain ⟨o, ho, _, hd⟩ := R
  refine wpAny_setScan_of (knd := strKind P w) (k := x) (Froz.is_str x tk) ho hd G.fit G.elems ?_
  cases found : List.findIdx? (fun e => (strKind P w).is x e.2) es.toList with
  | some j =>
    obtain ⟨e, h1, h2, h3⟩ := G.there found
    exact yes j e h1 h2 h3
  | none => exact no (G.gone found)
/-- one text more -/
def ins (x : Str) (xs : List Str) : List Str := if x ∈ xs then xs else x :: xs
theorem lay_tail {g : Bool → Sem Unit} (calm : ∀ (b : Bool) (s' : Shared) (Q' : Unit → Shared → Prop), Q' () s' → wpAny (model P w) A (g b) Q' E s') (R : At s.heap a es ep t) (G : Gd w fs u ys) {dummy : Bool} {Q : Option Bool → Shared → Prop}
    (fin : ∀ h', Heap.SameBut a s.heap h' → SetT w h' a ys → Q (some true) { s with heap := h' }) :
    wpAny (model P w) A (do storeSet a fs u; if (!dummy && u.tooFull) = true then (do g (relayAll u fs (SetTable.grown fs.size)).2.2; storeSet a (relayAll u fs (SetTable.grown fs.size)).1 (relayAll u fs (SetTable.grown fs.size)).2.1; pure (some true)) else pure (some true)) Q E s := by
  refine wpAny_bind (R.store G.line fun h1 only1 R1 => ?_)
  split
  · have again : Gd w (relayAll u fs (SetTable.grown fs.size)).1 (relayAll u fs (SetTable.grown fs.size)).2.1 ys := G.moved (relayAll_perm ..) (relayAll_fits ..) (relayAll_ris ..) (by rw [relayAll_led]; exact G.led)
    exact wpAny_bind (calm _ _ _ (wpAny_bind (R1.store again.line fun h2 only2 R2 => wpAny_pure (fin h2 (only1.trans only2) ⟨_, _, _, R2, again⟩))))
  · exact wpAny_pure (fin h1 only1 ⟨_, _, _, R1, G⟩)
theorem SetT.add {Q : Bool → Shared → Prop} (R : SetT w s.heap a xs) (room : xs.length + 1 < scanBound) (fin : ∀ h', Heap.SameBut a s.heap h' → SetT w h' a (ins x xs) → Q (!decide (x ∈ xs)) { s with heap := h' }) : wpAny (model P w) A (setAddHashed a (.str x tk) (hashStr w x)) Q E s := by
  obtain ⟨es, ep, t, R, G⟩ := R
  unfold setAddHashed setAddHashedIn setAddByScan
  refine wpAny_holding (wpAny_bind (R.state G.fit ?_))
  dsimp only
  rw [byScan_of (knd := strKind P w) rfl G.few G.elems, if_pos rfl]
  refine wpAny_bind (wpAny_bind (wpAny_rule (wpAny_bind (R.scan G (fun j e _ _ yes => ?_) fun no => ?_))))
  · have same : ins x xs = xs := if_pos yes
    rw [same, decide_eq_true yes] at fin
    exact wpAny_pure (wpAny_pure (fin s.heap (Heap.SameBut.refl a s.heap) ⟨es, ep, t, R, G⟩))
  · have grown : ins x xs = x :: xs := if_neg no
    rw [grown, decide_eq_false no] at fin
    have N : Gd w (layNew t es (hashStr w x) (.str x tk)).1 (layNew t es (hashStr w x) (.str x tk)).2.1 (x :: xs) := G.more (tk := tk) no room (layNew_perm ..) (layNew_fits ..) (layNew_ris _ _ _ _ G.ris) (by rw [layNew_led]; exact G.led)
    generalize layNew t es (hashStr w x) (.str x tk) = Z at N ⊢
    obtain ⟨fs, u, dummy, gave⟩ := Z
    have calm : ∀ (b : Bool) (s' : Shared) (Q' : Unit → Shared → Prop), Q' () s' → wpAny (model P w) A (match b with | true => rule "set.scan.the-table-gave-way" | false => pure ()) Q' E s' := fun b s' Q' q => by
      cases b
      · exact wpAny_pure q
      · exact wpAny_rule q
    have off : Gd w fs { u with plain := false } (x :: xs) := N.moved (List.Perm.refl _) (SetTable.fits_plain_off N.fit) N.ris N.led
    dsimp only
    refine wpAny_bind (calm gave _ _ ?_)
    have last : ∀ u', Gd w fs u' (x :: xs) → ∀ Z : Sem (Option Bool), Z = _ → wpAny (model P w) A Z (fun r s' => wpAny (model P w) A (match r with | some b => pure b | none => setAddHashedIn a (.str x tk) (hashStr w x) 99999) Q E s') E s := fun u' N' Z e => by
      rw [e]
      exact lay_tail (dummy := dummy) calm R N' fun h' only made => wpAny_pure (fin h' only made)
    by_cases pl : u.plain = true
    · rw [if_pos pl, hashByValue_scannable 8 (show (Value.str x tk).scannable = true from rfl)]
      refine wpAny_bind (wpAny_pure ?_)
      exact last _ off _ rfl
    · rw [if_neg pl]
      refine wpAny_bind (wpAny_pure ?_)
      exact last _ N _ rfl
end
/-! ### a set of the items of a list or a tuple -/
/-- the set of all these texts -/
def Of (w : World) (h : Heap) (a : Addr) (xs : List Str) : Prop := ∃ ds : List Str, (∀ x, x ∈ ds ↔ x ∈ xs) ∧ ds.length ≤ xs.length ∧ SetT w h a ds
section
variable {P : Program} {w : World} {A : Around} {E : Value → Shared → Prop} {s : Shared} {h h' : Heap} {a : Addr} {xs ys : List Str} {x : Str}
theorem Of.at (R : Of w h a xs) (k : ∀ o, h.get? a = some o → h'.get? a = some o) : Of w h' a xs := by
  obtain ⟨ds, h1, h2, h3⟩ := R
  exact ⟨ds, h1, h2, h3.at k⟩
theorem mem_ins {y : Str} : y ∈ ins x xs ↔ y = x ∨ y ∈ xs := by
  unfold ins
  split
  · rename_i yes
    exact ⟨.inr, fun z => z.elim (fun e => e ▸ yes) id⟩
  · exact List.mem_cons
theorem len_ins : (ins x xs).length ≤ xs.length + 1 := by
  unfold ins
  split
  · exact Nat.le_succ _
  · exact Nat.le_refl _
theorem any_no {v : Value} {T : String} {Q : Bool → Shared → Prop} (ty : s.TypeIs v T) (n1 : isSubtype (.type T) (.type "set") = pure false) (n2 : isSubtype (.type T) (.type "frozenset") = pure false) (q : Q false s) : wpAny (model P w) A (Builtin.Frozenset.isAnySet v) Q E s :=
  wpAny_bind (wpAny_isInstance ty n1 (wpAny_isInstance ty n2 q))
theorem any_yes {v : Value} {Q : Bool → Shared → Prop} (ty : s.TypeIs v "set") (q : Q true s) : wpAny (model P w) A (Builtin.Frozenset.isAnySet v) Q E s := wpAny_bind (wpAny_isInstance ty sub_set_self (wpAny_pure q))
/-- the items to come are put in, one behind another -/
theorem loopT {I S : Addr} {fp wr : List Addr} {G : Array GenState → Array GenState → Prop} {Pv : Nat → Value → Prop} {St : Nat → Shared → Prop} {R : Result → Shared → Prop} (xs : List Str)
    (W : WalksS P w A.in1 I fp wr G xs.length Pv St) (off : S ∉ fp) (room : xs.length + 1 < scanBound) (hv : ∀ i v, Pv i v → ∃ x t, xs[i]? = some x ∧ v = .str x t) (fin : ∀ s', Moved (S :: wr) G s s' → Of w s'.heap S xs → R (.ok (.ret .none)) s') :
    ∀ (left i : Nat) (z : Shared), i + left = xs.length → Moved (S :: wr) G s z → St i z → Of w z.heap S (xs.take i) → codeAny (model P w) A (.builtin "set.update.loop" ⟨[.ref S, .ref I], []⟩) R z
  | 0, i, z, e, mv, st, so => by
    have off' : S ∉ wr := fun y => off (W.sub _ y)
    refine codeAny_builtin PyProof.Rows.F.entry_set_update_loop ?_
    rw [Around.under_plainId PyProof.Rows.F.plain_set_update_loop _]
    obtain rfl : i = xs.length := e
    rw [List.take_length] at so
    refine wpAny_bind (m := pyNext (.ref I)) (W.done z _ _ st fun z' mv' => wpAny_pure (fin z' (mv.trans W.gtrans (mv'.mono fun c hc => List.mem_cons_of_mem _ hc)) (so.at fun o ho => mv'.heap S o off' ho)))
  | left + 1, i, z, e, mv, st, so => by
    have off' : S ∉ wr := fun y => off (W.sub _ y)
    refine codeAny_builtin PyProof.Rows.F.entry_set_update_loop ?_
    rw [Around.under_plainId PyProof.Rows.F.plain_set_update_loop _]
    refine wpAny_bind (m := pyNext (.ref I)) (W.item i z _ _ (by omega) st fun v z' hP st' mv' => ?_)
    obtain ⟨x, t, hx, rfl⟩ := hv i v hP
    obtain ⟨ds, d1, d2, d3⟩ := so.at (h' := z'.heap) fun o ho => mv'.heap S o off' ho
    rw [List.length_take] at d2
    unfold setAdd
    refine wpAny_bind (wpAny_holding (wpAny_holding (wpAny_bind ((strKind P w).pyHash (k := x) (Froz.is_str x t) (SetT.add (s := { z' with toks := z'.toks + 1 }) d3 (by omega) fun h2 only d4 => wpAny_pure ⟨plainId_quiet PyProof.Rows.F.plain_set_update_loop _, ?_⟩)))))
    have keep : ∀ c, c ≠ S → ∀ o, z'.heap.get? c = some o → h2.get? c = some o := fun c hc o ho => (only.2 c hc).trans ho
    refine loopT xs W off room hv fin left (i + 1) _ (by omega) (mv.trans W.gtrans ((mv'.mono fun c hc => List.mem_cons_of_mem _ hc).then_heap (Nat.le_succ _) fun c o hc ho => keep c (fun y => hc (y ▸ List.mem_cons_self)) o ho)) (W.frame _ z' _ _ st' (Nat.le_succ _) fun c hc o ho => keep c (fun y => off (y ▸ hc)) o ho) ⟨_, fun y => ?_, ?_, d4⟩
    · rw [mem_ins, d1, List.take_add_one, hx, List.mem_append, Option.toList_some, List.mem_singleton]
      exact Or.comm
    · have := len_ins (x := x) (xs := ds)
      rw [List.length_take]
      omega
/-- S.update(l), S new, l a list or a tuple of texts -/
theorem fromSeq {S l : Addr} {its : Array Value} (id : String) (xs : List Str) {Q : Unit → Shared → Prop} (hh : A.handled = none) (src : s.heap.IsList l its ∨ s.heap.IsTuple l its) (hv : ∀ (i : Nat) (v : Value), its[i]? = some v → ∃ x t, xs[i]? = some x ∧ v = Value.str x t) (hn : its.size = xs.length) (room : xs.length + 1 < scanBound)
    (new : SetT w s.heap S []) (fin : ∀ h' tk, Of w h' S xs → (∀ b o, b ≠ S → s.heap.get? b = some o → h'.get? b = some o) → Q () { s with heap := h', toks := tk }) : wpAny (model P w) A (Builtin.Frozenset.updateFrom id S (.ref l)) Q E s := by
  have isS : ∃ o, s.heap.get? S = some o ∧ o.cls = .type "set" := by
    obtain ⟨_, _, _, ⟨o, ho, ex, _⟩, _⟩ := new
    exact ⟨o, ho, ex.1⟩
  obtain ⟨oS, hS, cS⟩ := isS
  have ltS : S < s.heap.objs.size := Heap.lt_size hS
  have walk : ∀ (o : Obj) {St : Nat → Heap → Prop}, (S ≠ l) → (∀ A' : Around, A'.handled = none → Walks P w A' s.heap.objs.size [s.heap.objs.size, l] [s.heap.objs.size] its.size (fun i v => its[i]? = some v) St) → St 0 (s.heap.push o) →
      wpAny (model P w) A (do let _ ← runValue (.builtin "set.update.loop" ⟨[.ref S, .ref s.heap.objs.size], []⟩); pure ()) Q E { s with heap := s.heap.push o } := fun o St ne W st => by
    refine wpAny_bind (wpAny_runValue ?_)
    have W1 := (W A.in1 hh).toS
    rw [hn] at W1
    refine loopT (s := { s with heap := s.heap.push o }) xs W1 (fun y => ?_) room hv (fun z mv so => ?_) xs.length 0 _ (Nat.zero_add _) (Moved.refl W1.grefl) st ?_
    · rcases List.mem_cons.mp y with e | e
      · exact absurd e (Nat.ne_of_lt ltS)
      · exact ne (List.mem_singleton.mp e)
    · obtain ⟨h2, g2, d2, tk2, os2⟩ := z
      obtain rfl : g2 = s.gens := mv.gens
      obtain rfl : d2 = s.drawn := mv.drawn
      obtain rfl : os2 = s.os := mv.os
      refine wpAny_pure (fin h2 tk2 so fun b ob nb hb => mv.heap b ob (fun y => ?_) (Heap.get?_push_of_some _ hb))
      rcases List.mem_cons.mp y with e | e
      · exact nb e
      · exact absurd (List.mem_singleton.mp e) (Nat.ne_of_lt (Heap.lt_size hb))
    · exact ⟨[], fun x => by simp, Nat.zero_le _, new.at fun ob hb => Heap.get?_push_of_some _ hb⟩
  have apart : ∀ {T : String}, (Value.type "set" == Value.type T) = false → ∀ {ol : Obj}, s.heap.get? l = some ol → ol.cls = .type T → S ≠ l := fun {T} no {ol} hl cl e => by
    subst e
    rw [hl] at hS
    cases hS
    rw [cl] at cS
    rw [cS] at no
    simp at no
  unfold Builtin.Frozenset.updateFrom
  rcases src with il | il
  · obtain ⟨ol, hol, hcl, rest⟩ := il
    have ty : s.TypeIs (.ref l) "list" := ⟨ol, hol, hcl⟩
    refine wpAny_bind (any_no ty PySem.F.sub_list_set PySem.F.sub_list_frozenset ?_)
    rw [if_neg (by decide)]
    refine wpAny_bind (wpAny_typeOf ty ?_)
    rw [if_neg (by decide)]
    refine wpAny_bind (wpAny_pyIter_list ⟨ol, hol, hcl, rest⟩ ?_)
    exact walk _ (apart (T := "list") (by decide) hol hcl) (fun A' hA => Walks.list hA _ l (Nat.ne_of_lt (Heap.lt_size hol)) its) ⟨⟨_, Heap.get?_push_size _ rfl, rfl, rfl⟩, Heap.IsList.push ⟨ol, hol, hcl, rest⟩ _⟩
  · obtain ⟨ol, hol, hcl, rest⟩ := il
    have ty : s.TypeIs (.ref l) "tuple" := ⟨ol, hol, hcl⟩
    refine wpAny_bind (any_no ty PySem.F.sub_tuple_set PySem.F.sub_tuple_frozenset ?_)
    rw [if_neg (by decide)]
    refine wpAny_bind (wpAny_typeOf ty ?_)
    rw [if_neg (by decide)]
    refine wpAny_bind (wpAny_pyIter_tuple ⟨ol, hol, hcl, rest⟩ ?_)
    exact walk _ (apart (T := "tuple") (by decide) hol hcl) (fun A' hA => Walks.tuple hA _ l (Nat.ne_of_lt (Heap.lt_size hol)) its) ⟨⟨_, Heap.get?_push_size _ rfl, rfl, rfl⟩, Heap.IsTuple.push ⟨ol, hol, hcl, rest⟩ _⟩
/-- an empty set, new -/
theorem new_set {Q : Value → Shared → Prop} (fin : ∀ h' t, (∀ b o, s.heap.get? b = some o → h'.get? b = some o) → h'.objs.size = s.heap.objs.size + 1 → At h' s.heap.objs.size #[] 0 t → Gd w #[] t [] → t.mask = 7 → t.dummies = #[] → Q (.ref s.heap.objs.size) { s with heap := h' }) : wpAny (model P w) A (newSet (.type "set")) Q E s := by
  unfold newSet setsByText
  refine wpAny_bind (wpAny_bind (wpAny_askSetting (wpAny_pure ?_)))
  show wpAny _ _ (newObj (.type "set") _) _ _ _
  unfold newObj
  refine wpAny_bind (wpAny_alloc (wpAny_pure (fin _ _ (fun b o e => Heap.get?_push_of_some _ e) (Heap.size_push ..) ⟨_, Heap.get?_push_size _ rfl, ⟨rfl, rfl, rfl⟩, rfl⟩ ?_ rfl rfl)))
  refine ⟨fun e he => by simp at he, List.Perm.refl _, List.nodup_nil, by decide, by rfl, List.Pairwise.nil, ?_⟩
  show _ ∨ (!w.params.followText "set-order") = true
  cases w.params.followText "set-order"
  · exact .inr rfl
  · exact .inl rfl
/-- set.__new__(set, v) -/
theorem new_code (v : Value) {Q : Value → Shared → Prop} (fin : ∀ h', (∀ b o, s.heap.get? b = some o → h'.get? b = some o) → ∀ t, At h' s.heap.objs.size #[] 0 t → Gd w #[] t [] → t.dummies = #[] → Q (.ref s.heap.objs.size) { s with heap := h' }) : codeAny (model P w) A (.call (.builtin "set.__new__") ⟨[.type "set", v], []⟩) (wants Q E) s := by
  refine codeAny_of_tree ?_
  show wpAny _ A.in1 (checkBuiltinCall _ _ >>= fun _ => again _) _ _ s
  refine wpAny_bind (wpAny_of_eq (PySem.F.newCall_set_1 v) (wpAny_pure ⟨plainId_quiet PySem.F.plain_set_new _, codeAny_builtin PySem.F.entry_set_new ?_⟩))
  rw [Around.under_plainId PySem.F.plain_set_new _]
  unfold Builtin.«set.__new__» Builtin.Frozenset.newClass
  have own := sub_set_self
  generalize hN : newSet = N
  wp_walk
  subst hN
  exact new_set fun h' t keep _ R G _ d => wpAny_pure (fin h' keep t R G d)
end
/-! ### put together -/
section
variable {P : Program} {w : World} {A : Around} {E : Value → Shared → Prop} {s : Shared} {h h' : Heap} {a o : Addr} {xs ys : List Str} {es fs : Array (Int × Value)} {t u : SetTable} {ep : Nat} {x : Str} {tk : Tok}
/-- the entries, laid anew by a clean table -/
theorem Gd.laid (G : Gd w es t xs) {m : Nat} (finger moves : Nat) (led plain : Bool) (hm : UV.Msk m) (few : es.size ≤ m) (hl : w.params.followText "set-order" = true ∨ led = true) :
    ∃ u order, SetTable.laid m finger moves led plain (es.map (·.1)) = some (u, order) ∧ (order.filterMap (es[·]?)).size = es.size ∧ Gd w (order.filterMap (es[·]?)) u xs ∧ u.mask = m ∧ u.dummies = #[] := by
  obtain ⟨u, order, e, pm, ris, size, dm, mk, ld⟩ := UV.laid_ok (finger := finger) (moves := moves) (led := led) (plain := plain) (hs := es.map (·.1)) hm (by rw [Array.size_map]; exact few)
  rw [Array.size_map] at pm size
  have perm : (order.filterMap (es[·]?)).toList.Perm es.toList := by
    rw [Array.toList_filterMap]
    exact (pm.filterMap _).trans (by rw [filterMap_getElem?_range])
  have same : (order.filterMap (es[·]?)).size = es.size := by
    have := perm.length_eq
    rwa [Array.length_toList, Array.length_toList] at this
  refine ⟨u, order, e, same, G.moved perm ?_ ris (by rw [ld]; exact hl), mk, dm⟩
  unfold SetTable.fits SetTable.fill
  rw [size, same, mk, dm]
  simp
  omega
theorem At.relay {Q : Unit → Shared → Prop} {n : Nat} (R : At s.heap a es ep t) (G : Gd w es t xs) (lt : n < 128) (le : es.size ≤ n)
    (fin : ∀ h' fs u, Heap.SameBut a s.heap h' → At h' a fs (ep + 1) u → Gd w fs u xs → u.mask = SetTable.sizeAbove n - 1 → u.dummies = #[] → Q () { s with heap := h' }) : wpAny (model P w) A (setRelay a n) Q E s := by
  obtain ⟨mk, big, top⟩ := UV.above_ok lt
  obtain ⟨u, order, e, same, G2, m2, d2⟩ := G.laid t.finger (t.movedTo (SetTable.sizeAbove n - 1)) t.led t.plain mk (Nat.le_trans le big) G.led
  unfold setRelay
  refine wpAny_bind (R.state G.fit ?_)
  dsimp only
  rw [if_neg (by rw [sizeLine_eq]; omega), show t.relaid (es.map (·.1)) n = some (u, order) from e]
  refine wpAny_bind ?_
  show wpAny _ _ (if ((order.filterMap (es[·]?)).size != es.size) = true then _ else _) _ _ _
  rw [if_neg (by rw [same]; simp)]
  exact wpAny_pure (R.store G2.line fun h' only R2 => fin h' _ _ only R2 G2 m2 d2)
/-- room for more -/
theorem At.room {Q : Unit → Shared → Prop} {more : Nat} (R : At s.heap a es ep t) (G : Gd w es t xs) (mk : UV.Msk t.mask) (lt : (es.size + more) * 2 < 128)
    (fin : ∀ h' fs ep' u, Heap.SameBut a s.heap h' → At h' a fs ep' u → Gd w fs u xs → UV.Msk u.mask → more ≤ u.mask → (u.dummies = #[] ∨ u = t) → Q () { s with heap := h' }) : wpAny (model P w) A (setRoomFor a more) Q E s := by
  unfold setRoomFor
  refine wpAny_bind (R.state G.fit ?_)
  have fit := G.fit
  unfold SetTable.fits at fit
  obtain ⟨f1, f2⟩ := Bool.and_eq_true_iff.mp fit
  have place : t.place.size = es.size := beq_iff_eq.mp f1
  dsimp only
  unfold SetTable.roomFor
  split
  · rename_i wanted eq
    split at eq
    · cases eq
      have top := UV.above_ok (n := (t.place.size + more) * 2) (by rw [place]; exact lt)
      refine R.relay G (by rw [place]; exact lt) (by rw [place]; omega) fun h' fs u only R2 G2 m2 d2 => fin h' fs _ u only R2 G2 (m2 ▸ top.1) ?_ (.inl d2)
      rw [m2]
      have := top.2.1
      omega
    · cases eq
  · rename_i eq
    split at eq
    · exact (eq _ rfl).elim
    · rename_i no
      exact wpAny_pure (fin s.heap es ep t (Heap.SameBut.refl a s.heap) R G mk (by omega) (.inr rfl))
/-- its entries, in some order -/
theorem At.walk {Q : Array (Int × Value) → Shared → Prop} (R : At s.heap a es ep t) (G : Gd w es t xs) (fin : ∀ fs d, fs.toList.Perm es.toList → Q fs { s with drawn := d }) : wpAny (model P w) A (setWalk a) Q E s := by
  unfold setWalk
  refine wpAny_bind (R.state G.fit (wpAny_bind (wpAny_byText ?_)))
  by_cases by_ : w.params.followText "set-order" = true
  · rw [if_pos by_]
    exact wpAny_bind (wpAny_askSetting (wpAny_pure (fin _ _ (pick_perm _ _))))
  · rw [if_neg by_]
    split
    · exact wpAny_bind (drawOrder_at _ _ _ _ (Nat.le_of_eq Array.length_toList) fun ys d p => wpAny_pure (fin _ d p))
    · have led := G.led.resolve_left by_
      refine wpAny_bind ?_
      show wpAny _ _ (if (!t.led && decide (es.size > 1)) = true then _ else _) _ _ _
      rw [led, if_neg (by simp)]
      exact wpAny_pure (wpAny_pure (fin es s.drawn (List.Perm.refl _)))
theorem quiet {Q : Bool → Shared → Prop} (sets : List Addr) (each : ∀ b ∈ sets, ∃ es ep t xs, At s.heap b es ep t ∧ Gd w es t xs) (q : Q true s) : wpAny (model P w) A (setsQuiet sets) Q E s := by
  unfold setsQuiet
  dsimp only
  refine wpAny_bind (wpAny_forIn_list _ (fun l r z => z = s ∧ r.1 = none ∧ ∀ b ∈ l, b ∈ sets) _ (fun b rest r z hz => ?_) (fun r z hz => ?_) _ _ ⟨rfl, rfl, fun _ y => y⟩)
  · obtain ⟨rfl, hr, hin⟩ := hz
    obtain ⟨es, ep, t, xs, R, G⟩ := each b (hin b List.mem_cons_self)
    unfold setEntries
    refine wpAny_bind (wpAny_bind (R.state G.fit (wpAny_pure (wpAny_bind (wpAny_forIn_array' _ (fun l r y => y = z ∧ r.1 = none ∧ ∀ e ∈ l, Tx w e) _ (fun e more r y hy => ?_) (fun r y hy => ?_) _ _ ⟨rfl, rfl, G.tx⟩)))))
    · obtain ⟨rfl, _, tx⟩ := hy
      obtain ⟨x, tk, e1, _⟩ := tx e List.mem_cons_self
      rw [e1]
      exact wpAny_pure ⟨rfl, rfl, fun e he => tx e (List.mem_cons_of_mem _ he)⟩
    · obtain ⟨rfl, e, _⟩ := hy
      rw [e]
      exact wpAny_pure ⟨rfl, rfl, fun c hc => hin c (List.mem_cons_of_mem _ hc)⟩
  · obtain ⟨rfl, e, _⟩ := hz
    rw [e]
    exact wpAny_pure q
/-- its entries, in some order, that nobody sees; what is filled by them bears the mark -/
theorem At.unseen {Q : Array (Int × Value) → Shared → Prop} {others : List Addr} (R : At s.heap a es ep t) (G : Gd w es t xs) (each : ∀ b ∈ others, ∃ es ep t xs, At s.heap b es ep t ∧ Gd w es t xs) (fin : ∀ fs d, fs.toList.Perm es.toList → Q fs { s with drawn := d }) : wpAny (model P w) A (setWalkUnseen a others none) Q E s := by
  unfold setWalkUnseen
  refine wpAny_bind (R.state G.fit (wpAny_bind (wpAny_byText ?_)))
  dsimp only
  split
  · exact R.walk G fin
  · refine wpAny_bind (quiet _ (fun b hb => ?_) ?_)
    · rcases List.mem_cons.mp hb with rfl | hb
      · exact ⟨es, ep, t, xs, R, G⟩
      · exact each b hb
    · exact wpAny_bind (wpAny_rule (wpAny_pure (fin es s.drawn (List.Perm.refl _))))
theorem At.unseenF {Q : Array (Int × Value) → Shared → Prop} {others : List Addr} {f : Addr} {ef : Array (Int × Value)} {pf : Nat} {tf : SetTable} {zs : List Str} (R : At s.heap a es ep t) (G : Gd w es t xs) (each : ∀ b ∈ others, ∃ es ep t xs, At s.heap b es ep t ∧ Gd w es t xs) (F : At s.heap f ef pf tf) (GF : Gd w ef tf zs)
    (fin : ∀ fs d h' pf' tf', fs.toList.Perm es.toList → Heap.SameBut f s.heap h' → At h' f ef pf' tf' → Gd w ef tf' zs → tf'.mask = tf.mask → Q fs { s with heap := h', drawn := d }) : wpAny (model P w) A (setWalkUnseen a others (some f)) Q E s := by
  have stay : ∀ fs d, fs.toList.Perm es.toList → Q fs { s with drawn := d } := fun fs d p => fin fs d s.heap pf tf p (Heap.SameBut.refl f s.heap) F GF rfl
  unfold setWalkUnseen
  refine wpAny_bind (R.state G.fit (wpAny_bind (wpAny_byText ?_)))
  dsimp only
  split
  · exact R.walk G stay
  · refine wpAny_bind (quiet _ (fun b hb => ?_) ?_)
    · rcases List.mem_cons.mp hb with rfl | hb
      · exact ⟨es, ep, t, xs, R, G⟩
      · exact each b hb
    · refine wpAny_bind (wpAny_rule (wpAny_bind (F.state GF.fit ?_)))
      dsimp only
      split
      · refine wpAny_bind (F.store GF.line fun h' only F2 => wpAny_pure (fin es s.drawn h' _ _ (List.Perm.refl _) only F2 ?_ rfl))
        refine GF.moved (List.Perm.refl _) GF.fit GF.ris ?_
        rcases GF.led with y | y
        · exact .inl y
        · rcases G.led with z | z
          · exact .inl z
          · exact .inr (by rw [y, z]; rfl)
      · exact wpAny_pure (stay es s.drawn (List.Perm.refl _))
end
section
variable {P : Program} {w : World} {A : Around} {E : Value → Shared → Prop} {s : Shared} {h h' : Heap} {a o : Addr} {xs ys zs : List Str} {es fs : Array (Int × Value)} {t u : SetTable} {ep eo : Nat} {x : Str} {tk : Tok}
/-- zs has all of xs and ys, no others -/
def Both (xs ys zs : List Str) : Prop := (∀ x, x ∈ zs ↔ x ∈ xs ∨ x ∈ ys) ∧ zs.length ≤ xs.length + ys.length
/-- the keys of some entries -/
theorem Gd.key_mem (G : Gd w es t xs) {e : Int × Value} (he : e ∈ es.toList) : keyT e ∈ xs := G.keys.mem_iff.mp (List.mem_map.mpr ⟨e, he, rfl⟩)
/-- all of o's are put to a, one behind another -/
theorem one_by_one {Q : Unit → Shared → Prop} {body : Int × Value → PUnit → Sem (ForInStep PUnit)} (Ra : SetT w s.heap a xs) (Ro : At s.heap o fs eo u) (Go : Gd w fs u ys) (ne : a ≠ o) (few : xs.length + ys.length + 1 < scanBound) {gs : Array (Int × Value)} (pm : gs.toList.Perm fs.toList)
    (does : ∀ (x : Str) (tk : Tok) (z : Shared) (Q' : ForInStep PUnit → Shared → Prop) (zs : List Str), SetT w z.heap a zs → zs.length + 1 < scanBound → At z.heap o fs eo u → (∀ h', Heap.SameBut a z.heap h' → SetT w h' a (ins x zs) → At h' o fs eo u → Q' (.yield ⟨⟩) { z with heap := h' }) → wpAny (model P w) A (body (hashStr w x, .str x tk) ⟨⟩) Q' E z)
    (fin : ∀ h' zs, Heap.SameBut a s.heap h' → SetT w h' a zs → Both xs ys zs → Q () { s with heap := h' }) : wpAny (model P w) A (forIn gs ⟨⟩ body) Q E s := by
  refine wpAny_forIn_array' _ (fun l _ z => ∃ h' zs, z = { s with heap := h' } ∧ Heap.SameBut a s.heap h' ∧ SetT w h' a zs ∧ zs.length + l.length ≤ xs.length + ys.length ∧ (∀ x, x ∈ zs ∨ x ∈ l.map keyT ↔ x ∈ xs ∨ x ∈ ys) ∧ ∀ e ∈ l, Tx w e) _ (fun e rest b z hz => ?_) (fun b z hz => ?_) gs PUnit.unit ⟨s.heap, xs, rfl, Heap.SameBut.refl a s.heap, Ra, ?_, fun x => ?_, fun e he => Go.tx e (pm.mem_iff.mp he)⟩
  · obtain ⟨h1, zs, rfl, only, R1, len, mem, tx⟩ := hz
    obtain ⟨x, tk, e1, e2⟩ := tx e List.mem_cons_self
    obtain ⟨h, v⟩ := e
    simp only at e1 e2
    subst e1 e2
    rw [List.length_cons] at len
    have Ro1 : At h1 o fs eo u := Ro.at fun ob hb => (only.2 o ne.symm).trans hb
    refine does x tk { s with heap := h1 } _ zs R1 (by omega) Ro1 fun h2 only2 R2 _ => ⟨h2, _, rfl, only.trans only2, R2, ?_, fun y => ?_, fun e he => tx e (List.mem_cons_of_mem _ he)⟩
    · have := len_ins (x := x) (xs := zs)
      omega
    · rw [← mem y, mem_ins, List.map_cons, List.mem_cons]
      show (y = x ∨ y ∈ zs) ∨ _ ↔ y ∈ zs ∨ y = x ∨ _
      exact ⟨fun z => z.elim (fun z => z.elim (fun c => .inr (.inl c)) .inl) fun c => .inr (.inr c), fun z => z.elim (fun c => .inl (.inr c)) fun z => z.elim (fun c => .inl (.inl c)) .inr⟩
  · obtain ⟨h1, zs, rfl, only, R1, len, mem, _⟩ := hz
    exact fin h1 zs only R1 ⟨fun x => by rw [← mem x]; simp, by simpa using len⟩
  · have len : fs.toList.length = ys.length := Array.length_toList.trans Go.size
    have := pm.length_eq
    omega
  · exact or_congr_right (((pm.map keyT).trans Go.keys).mem_iff)
theorem merge {Q : Unit → Shared → Prop} {each : Sem Unit} (Ra : At s.heap a es ep t) (Ga : Gd w es t xs) (mk : UV.Msk t.mask) (Ro : At s.heap o fs eo u) (Go : Gd w fs u ys) (ne : a ≠ o) (lt : (es.size + fs.size) * 2 < 128)
    (calm : ∀ (z : Shared) (Q' : Unit → Shared → Prop), At z.heap o fs eo u → Q' () z → wpAny (model P w) A each Q' E z)
    (fin : ∀ h' d gs ep' v zs, Heap.SameBut a s.heap h' → At h' a gs ep' v → Gd w gs v zs → Both xs ys zs → (xs = [] → t.dummies = #[] → UV.Msk v.mask) → Q () { s with heap := h', drawn := d }) : wpAny (model P w) A (setMerge a o each) Q E s := by
  have sa := Ga.size
  have so := Go.size
  unfold setMerge
  rw [if_neg (by simpa using ne)]
  refine wpAny_bind (Ro.state Go.fit ?_)
  dsimp only
  by_cases none : fs.isEmpty = true
  · rw [if_pos none]
    obtain rfl : ys = [] := List.length_eq_zero_iff.mp (by rw [← so]; simpa using none)
    exact wpAny_pure (fin s.heap s.drawn es ep t xs (Heap.SameBut.refl a s.heap) Ra Ga ⟨fun x => by simp, by simp⟩ fun _ _ => mk)
  rw [if_neg none]
  refine wpAny_bind (Ra.room Ga mk lt fun h1 e1 p1 t1 only1 R1 G1 mk1 le1 dm1 => ?_)
  have Ro1 : At h1 o fs eo u := Ro.at fun ob hb => (only1.2 o ne.symm).trans hb
  refine wpAny_bind (R1.state (s := { s with heap := h1 }) G1.fit ?_)
  dsimp only
  have s1 := G1.size
  have led : w.params.followText "set-order" = true ∨ (t1.led && u.led) = true := by
    rcases G1.led with y | y
    · exact .inl y
    · rcases Go.led with z | z
      · exact .inl z
      · exact .inr (by rw [y, z]; rfl)
  have empty : t1.fill = 0 → xs = [] := fun f => by
    have fit := G1.fit
    unfold SetTable.fits at fit
    have place := beq_iff_eq.mp (Bool.and_eq_true_iff.mp fit).1
    unfold SetTable.fill at f
    exact List.length_eq_zero_iff.mp (by omega)
  unfold SetTable.road
  by_cases full : (t1.fill != 0) = true
  · rw [if_pos full]
    dsimp only
    refine wpAny_bind (Ro1.unseenF (s := { s with heap := h1 }) Go (fun b hb => ?_) R1 G1 fun gs d h2 p2 t2 pm only2 R2 G2 m2 => ?_)
    · obtain rfl := List.mem_singleton.mp hb
      exact ⟨_, _, _, _, R1, G1⟩
    · have Ro2 : At h2 o fs eo u := Ro1.at fun ob hb => (only2.2 o ne.symm).trans hb
      have bound : xs.length + ys.length + 1 < scanBound := by unfold scanBound; omega
      refine wpAny_bind (one_by_one (s := { s with heap := h2, drawn := d }) ⟨_, _, _, R2, G2⟩ Ro2 Go ne bound pm (fun x tk z Q' zs Rz few Rzo done => ?_) fun h3 zs only3 R3 both => ?_)
      · dsimp only
        refine wpAny_bind (wpAny_holding (Rz.add few fun h' only made => ?_))
        have back : At h' o fs eo u := Rzo.at fun ob hb => (only.2 o ne.symm).trans hb
        refine wpAny_bind (calm _ _ back (wpAny_bind (back.state (s := { z with heap := h' }) Go.fit ?_)))
        dsimp only
        rw [if_neg (by simp)]
        exact wpAny_pure (done h' only made back)
      · obtain ⟨_, _, _, R3, G3⟩ := R3
        refine wpAny_pure (fin h3 d _ _ _ zs ((only1.trans only2).trans only3) R3 G3 both fun e dm => ?_)
        · exfalso
          have : t1.fill = 0 := by
            have fit := G1.fit
            unfold SetTable.fits at fit
            have place := beq_iff_eq.mp (Bool.and_eq_true_iff.mp fit).1
            have dm2 : t1.dummies = #[] := dm1.elim id fun y => y ▸ dm
            unfold SetTable.fill
            rw [place, dm2, s1, e]
            rfl
          rw [this] at full
          simp at full
  · rw [if_neg full]
    have zero : t1.fill = 0 := by simpa using full
    obtain rfl := empty zero
    by_cases alike : (t1.mask == u.mask && u.dummies.isEmpty) = true
    · rw [if_pos alike]
      dsimp only
      have m1 : u.mask = t1.mask := (beq_iff_eq.mp (Bool.and_eq_true_iff.mp alike).1).symm
      refine R1.store (s := { s with heap := h1 }) Go.line fun h2 only2 R2 => fin h2 s.drawn _ _ _ ys (only1.trans only2) R2 (Go.moved (List.Perm.refl _) Go.fit Go.ris led) ⟨fun x => by simp, by simp⟩ fun _ _ => ?_
      show UV.Msk u.mask
      rw [m1]
      exact mk1
    · rw [if_neg alike]
      dsimp only
      obtain ⟨v, order, e, same, Gv, mv, dv⟩ := Go.laid t1.finger t1.moves (t1.led && u.led) (t1.plain && u.plain) mk1 le1 led
      rw [e]
      refine wpAny_bind ?_
      show wpAny _ _ (if ((order.filterMap (fs[·]?)).size != fs.size) = true then _ else _) _ _ _
      rw [if_neg (by rw [same]; simp)]
      exact wpAny_pure (R1.store (s := { s with heap := h1 }) Gv.line fun h2 only2 R2 => fin h2 s.drawn _ _ _ ys (only1.trans only2) R2 Gv ⟨fun x => by simp, by simp⟩ fun _ _ => mv ▸ mk1)
/-- a copy, new -/
theorem copy {Q : Value → Shared → Prop} (R : At s.heap a es ep t) (G : Gd w es t xs) (lt : es.size * 2 < 128)
    (fin : ∀ h' d gs ep' v zs, (∀ b ob, s.heap.get? b = some ob → h'.get? b = some ob) → At h' s.heap.objs.size gs ep' v → Gd w gs v zs → (∀ x, x ∈ zs ↔ x ∈ xs) → zs.length ≤ xs.length → UV.Msk v.mask → Q (.ref s.heap.objs.size) { s with heap := h', drawn := d }) : wpAny (model P w) A (Builtin.Frozenset.copyOf a) Q E s := by
  unfold Builtin.Frozenset.copyOf Builtin.Frozenset.baseOf
  refine wpAny_bind (wpAny_bind (wpAny_isInstance R.is sub_set_self (wpAny_pure ?_)))
  rw [if_pos rfl]
  refine wpAny_bind (new_set fun h1 t1 keep size1 R1 G1 m1 d1 => wpAny_bind (wpAny_pure (wpAny_bind ?_)))
  have lta : a < s.heap.objs.size := by
    obtain ⟨ob, hb, _⟩ := R
    exact Heap.lt_size hb
  refine merge (s := { s with heap := h1 }) R1 G1 (by rw [m1]; exact .inl rfl) (R.at fun ob hb => keep _ _ hb) G (Nat.ne_of_gt lta) (by simpa using lt) (fun z Q' _ q => wpAny_pure q) fun h2 d gs ep' v zs only R2 G2 both mk => wpAny_pure (fin h2 d gs ep' v zs (fun b ob hb => ?_) R2 G2 (fun x => by rw [both.1 x]; simp) (by simpa using both.2) (mk rfl d1))
  exact (only.2 b (Nat.ne_of_lt (Heap.lt_size hb))).trans (keep b ob hb)
end
section
variable {P : Program} {w : World} {A : Around} {E : Value → Shared → Prop} {s : Shared} {h h' : Heap} {a o : Addr} {xs ys zs : List Str} {es fs : Array (Int × Value)} {t u : SetTable} {ep eo : Nat} {x : Str} {tk : Tok}
theorem SetT.lt (R : SetT w h a xs) : a < h.objs.size := by
  obtain ⟨_, _, _, ⟨ob, hb, _⟩, _⟩ := R
  exact Heap.lt_size hb
theorem entry_or : entryFor table "set.__or__" = some Builtin.«frozenset.__or__» := entryFor_alias (id' := "frozenset.__or__") (by kernel_rfl) rfl (by decide +kernel) (by kernel_rfl)
theorem entry_minus : entryFor table "set.__sub__" = some Builtin.«frozenset.__sub__» := entryFor_alias (id' := "frozenset.__sub__") (by kernel_rfl) rfl (by decide +kernel) (by kernel_rfl)
/-- xs | ys -/
theorem call_or {Q : Value → Shared → Prop} (Ra : SetT w s.heap a xs) (Ro : SetT w s.heap o ys) (ne : a ≠ o) (few : (xs.length + ys.length) * 2 < 128)
    (fin : ∀ h' d zs, (∀ b ob, s.heap.get? b = some ob → h'.get? b = some ob) → SetT w h' s.heap.objs.size zs → Both xs ys zs → Q (.ref s.heap.objs.size) { s with heap := h', drawn := d }) : wpAny (model P w) A (call (.builtin "set.__or__") [.ref a, .ref o]) Q E s := by
  refine wpAny_call_entry PySem.F.slot_set_or Ra.is entry_or ?_ (PySem.F.args_set_or_2 _ _)
  show wpAny _ _ (Builtin.Frozenset.slot1 _ _ >>= _) _ _ _
  refine wpAny_bind (m := Builtin.Frozenset.slot1 _ _) (wpAny_pure ?_)
  refine wpAny_bind (wpAny_bind (any_yes Ra.is (any_yes Ro.is ?_)))
  rw [if_neg (by decide)]
  refine wpAny_bind (wpAny_pure (wpAny_bind ?_))
  show wpAny _ _ (Builtin.Frozenset.copyOf a >>= _) _ _ _
  obtain ⟨es, ep, t, Ra, Ga⟩ := Ra
  obtain ⟨fs, eo, u, Ro, Go⟩ := Ro
  have sa := Ga.size
  have so := Go.size
  have lta : a < s.heap.objs.size := SetT.lt (w := w) (xs := xs) ⟨_, _, _, Ra, Ga⟩
  have lto : o < s.heap.objs.size := SetT.lt (w := w) (xs := ys) ⟨_, _, _, Ro, Go⟩
  refine wpAny_bind (copy Ra Ga (by omega) fun h1 d1 gs p1 v ws keep R1 G1 mem len mk => ?_)
  dsimp only
  rw [if_pos (by simpa using ne.symm)]
  have Ro1 : At h1 o fs eo u := Ro.at fun ob hb => keep _ _ hb
  have s1 := G1.size
  unfold Builtin.Frozenset.updateFrom Builtin.Frozenset.merge
  refine wpAny_bind (wpAny_pure (wpAny_bind (wpAny_holding (wpAny_bind (any_yes (Ro1.is (s := { s with heap := h1, drawn := d1 })) ?_)))))
  rw [if_pos rfl]
  refine wpAny_bind (wpAny_pure (wpAny_bind ?_))
  unfold setEpoch
  refine wpAny_bind (Ro1.state (s := { s with heap := h1, drawn := d1 }) Go.fit (wpAny_pure ?_))
  refine merge (s := { s with heap := h1, drawn := d1 }) R1 G1 mk Ro1 Go (Nat.ne_of_gt lto) (by omega) (fun z Q' Rz q => ?_) fun h2 d2 ks p2 k zs only R2 G2 both _ => ?_
  · unfold Builtin.Frozenset.unchanged setEpoch
    refine wpAny_bind (wpAny_bind (Rz.state Go.fit (wpAny_pure ?_)))
    rw [if_neg (by simp)]
    exact wpAny_pure q
  · refine wpAny_pure (wpAny_pure ⟨_, rfl, fin h2 d2 zs (fun b ob hb => ?_) ⟨_, _, _, R2, G2⟩ ⟨fun x => by rw [both.1 x, mem x], by have := both.2; omega⟩⟩)
    exact (only.2 b (Nat.ne_of_lt (Heap.lt_size hb))).trans (keep b ob hb)
end
/-! ### taken from one another -/
section
variable {P : Program} {w : World} {A : Around} {E : Value → Shared → Prop} {s : Shared} {h h' : Heap} {a o : Addr} {xs ys zs : List Str} {es fs : Array (Int × Value)} {t u : SetTable} {ep eo : Nat} {x : Str} {tk : Tok}
theorem list_eraseAt {α : Type} (l : Array α) (i : Nat) : (SetTable.eraseAt l i).toList = l.toList.eraseIdx i := by
  unfold SetTable.eraseAt
  rw [Array.toList_append, Array.toList_extract, Array.toList_extract, List.eraseIdx_eq_take_drop_succ, List.extract_eq_take_drop, List.extract_eq_take_drop]
  rw [List.take_of_length_le (l := List.drop (i + 1) l.toList) (by rw [List.length_drop, Array.length_toList]; exact Nat.le_refl _)]
  simp
theorem size_eraseAt {α : Type} {l : Array α} {i : Nat} (lt : i < l.size) : (SetTable.eraseAt l i).size = l.size - 1 := by
  rw [← Array.length_toList, list_eraseAt, List.length_eraseIdx_of_lt (by rw [Array.length_toList]; exact lt), Array.length_toList]
theorem size_insertAt (l : Array Nat) (i x : Nat) (le : i ≤ l.size) : (SetTable.insertAt l i x).size = l.size + 1 := by
  unfold SetTable.insertAt
  rw [Array.size_append, Array.size_push, Array.size_extract, Array.size_extract]
  omega
theorem size_insertAt_le (l : Array Nat) (i x : Nat) : (SetTable.insertAt l i x).size ≤ l.size + 1 := by
  unfold SetTable.insertAt
  rw [Array.size_append, Array.size_push, Array.size_extract, Array.size_extract]
  omega
/-- one entry less -/
theorem Gd.drop (G : Gd w es t xs) {j : Nat} {e : Int × Value} (he : es.toList[j]? = some e) (hk : keyT e = x) : Gd w (SetTable.eraseAt es j) (t.drop j) (xs.erase x) := by
  have lt : j < es.size := by
    have := (List.getElem?_eq_some_iff.mp he).1
    rwa [Array.length_toList] at this
  have pm := erase_perm es.toList j e he
  have inx : x ∈ xs := hk ▸ G.keys.mem_iff.mp (List.mem_map.mpr ⟨e, List.mem_of_getElem? he, rfl⟩)
  have keys : (((SetTable.eraseAt es j).toList).map keyT).Perm (xs.erase x) := by
    rw [list_eraseAt]
    have two := (pm.map keyT).trans (G.keys.trans (List.perm_cons_erase inx))
    rw [List.map_cons, hk] at two
    exact two.cons_inv
  have fit := G.fit
  unfold SetTable.fits SetTable.fill at fit
  obtain ⟨f1, f2⟩ := Bool.and_eq_true_iff.mp fit
  have place : t.place.size = es.size := beq_iff_eq.mp f1
  have full := of_decide_eq_true f2
  have there : t.place[j]? = some t.place[j] := Array.getElem?_eq_getElem (by omega)
  have dropped : t.drop j = { t with place := SetTable.eraseAt t.place j, dummies := SetTable.insertAt t.dummies (SetTable.below t.dummies t.place[j]) t.place[j] } := by
    unfold SetTable.drop
    rw [there]
  refine ⟨fun d hd => G.tx d ?_, keys, G.nd.erase x, ?_, ?_, ?_, ?_⟩
  · rw [list_eraseAt] at hd
    exact List.mem_of_mem_eraseIdx hd
  · rw [size_eraseAt lt]
    have := G.few
    omega
  · unfold SetTable.fits SetTable.fill
    rw [dropped]
    have := size_insertAt_le t.dummies (SetTable.below t.dummies t.place[j]) t.place[j]
    generalize SetTable.insertAt t.dummies (SetTable.below t.dummies t.place[j]) t.place[j] = D at this ⊢
    simp only [size_eraseAt lt, size_eraseAt (l := t.place) (by omega : j < t.place.size), place]
    simp
    omega
  · rw [dropped]
    show Ris (SetTable.eraseAt t.place j).toList
    rw [list_eraseAt]
    exact List.Pairwise.sublist (List.eraseIdx_sublist _ _) G.ris
  · rw [dropped]
    exact G.led
theorem At.find {Q : Option Nat → Shared → Prop} (R : At s.heap a es ep t) (G : Gd w es t xs) (yes : ∀ j e, es.toList[j]? = some e → keyT e = x → x ∈ xs → Q (some (0 + j)) s) (no : x ∉ xs → Q none s) : wpAny (model P w) A (setFind a (.str x tk) (hashStr w x)) Q E s := by
  unfold setFind setFindIn
  refine wpAny_bind (R.state G.fit ?_)
  dsimp only
  rw [byScan_of (knd := strKind P w) rfl G.few G.elems, if_pos rfl]
  exact wpAny_bind (wpAny_rule (wpAny_bind (R.scan G (fun j e h1 h2 h3 => wpAny_pure (yes j e h1 h2 h3)) fun h3 => wpAny_pure (no h3))))
/-- one text less -/
theorem SetT.discard {Q : Bool → Shared → Prop} (R : SetT w s.heap a xs) (fin : ∀ b h', Heap.SameBut a s.heap h' → SetT w h' a (xs.erase x) → Q b { s with heap := h' }) : wpAny (model P w) A (setDiscardHashed a (.str x tk) (hashStr w x)) Q E s := by
  obtain ⟨es, ep, t, R, G⟩ := R
  unfold setDiscardHashed
  refine wpAny_bind (R.find G (fun j e h1 h2 h3 => ?_) fun no => ?_)
  · dsimp only
    rw [Nat.zero_add]
    have less := G.drop h1 h2
    refine wpAny_bind (R.state G.fit (wpAny_bind (R.store less.line fun h' only R2 => wpAny_bind (wpAny_point (wpAny_pure (fin true h' only ⟨_, _, _, R2, less⟩))))))
  · rw [List.erase_of_not_mem no] at fin
    exact wpAny_pure (fin false s.heap (Heap.SameBut.refl a s.heap) ⟨es, ep, t, R, G⟩)
/-- zs has those of xs that are not in ys -/
def Less (xs ys zs : List Str) : Prop := (∀ x, x ∈ zs ↔ x ∈ xs ∧ x ∉ ys) ∧ zs.length ≤ xs.length
theorem tidy {Q : Unit → Shared → Prop} (R : SetT w s.heap a xs) (few : xs.length < 32) (fin : ∀ h', Heap.SameBut a s.heap h' → SetT w h' a xs → Q () { s with heap := h' }) : wpAny (model P w) A (setTidy a) Q E s := by
  obtain ⟨es, ep, t, R, G⟩ := R
  have size := G.size
  unfold setTidy
  refine wpAny_bind (R.state G.fit ?_)
  dsimp only
  split
  · have grown : SetTable.grown es.size = es.size * 4 := by
      unfold SetTable.grown
      rw [if_neg (by omega)]
    rw [grown]
    exact R.relay G (by omega) (by omega) fun h' fs u only R2 G2 _ _ => fin h' only ⟨_, _, _, R2, G2⟩
  · exact wpAny_pure (fin s.heap (Heap.SameBut.refl a s.heap) ⟨es, ep, t, R, G⟩)
theorem same_epoch {Q : Unit → Shared → Prop} {id : String} (R : At s.heap a es ep t) (G : Gd w es t xs) (q : Q () s) : wpAny (model P w) A (Builtin.Frozenset.unchanged id a ep) Q E s := by
  unfold Builtin.Frozenset.unchanged setEpoch
  refine wpAny_bind (wpAny_bind (R.state G.fit (wpAny_pure ?_)))
  rw [if_neg (by simp)]
  exact wpAny_pure q
theorem size_of {Q : Nat → Shared → Prop} (R : At s.heap a es ep t) (G : Gd w es t xs) (q : Q xs.length s) : wpAny (model P w) A (Builtin.Frozenset.sizeOf a) Q E s := by
  unfold Builtin.Frozenset.sizeOf setEntries
  refine wpAny_bind (wpAny_bind (R.state G.fit (wpAny_pure (wpAny_pure ?_))))
  rw [G.size]
  exact q
/-- a without what is in o, where o is no greater than eight times a -/
theorem take_away {Q : Unit → Shared → Prop} {id : String} (Ra : SetT w s.heap a xs) (Ro : At s.heap o fs eo u) (Go : Gd w fs u ys) (ne : a ≠ o) (few : xs.length < 32) (small : ¬ ys.length / 8 > xs.length)
    (fin : ∀ h' d zs, Heap.SameBut a s.heap h' → SetT w h' a zs → Less xs ys zs → Q () { s with heap := h', drawn := d }) : wpAny (model P w) A (Builtin.Frozenset.differenceUpdate id a (.ref o)) Q E s := by
  unfold Builtin.Frozenset.differenceUpdate
  rw [if_neg (by simpa using ne.symm)]
  refine wpAny_bind (any_yes Ro.is ?_)
  rw [if_pos rfl]
  obtain ⟨es, ep, t, Ra, Ga⟩ := Ra
  refine wpAny_bind (wpAny_pure (wpAny_bind (size_of Ro Go (wpAny_bind (size_of Ra Ga ?_)))))
  rw [if_neg small]
  unfold setEpoch
  refine wpAny_bind (wpAny_bind (Ro.state Go.fit (wpAny_pure ?_)))
  dsimp only
  refine wpAny_bind (wpAny_holding (wpAny_bind (Ro.unseen Go (fun b hb => ?_) fun gs d pm => ?_)))
  · obtain rfl := List.mem_singleton.mp hb
    exact ⟨_, _, _, _, Ra, Ga⟩
  refine wpAny_bind (wpAny_forIn_array' _ (fun l _ z => ∃ h' zs, z = { s with heap := h', drawn := d } ∧ Heap.SameBut a s.heap h' ∧ SetT w h' a zs ∧ zs.Nodup ∧ zs.length ≤ xs.length ∧ (∀ x, (x ∈ zs ∧ x ∉ l.map keyT) ↔ (x ∈ xs ∧ x ∉ ys)) ∧ ∀ e ∈ l, Tx w e) _ (fun e rest b z hz => ?_) (fun b z hz => ?_) gs PUnit.unit ⟨s.heap, xs, rfl, Heap.SameBut.refl a s.heap, ⟨_, _, _, Ra, Ga⟩, Ga.nd, Nat.le_refl _, fun x => ?_, fun e he => Go.tx e (pm.mem_iff.mp he)⟩)
  · obtain ⟨h1, zs, rfl, only, R1, nd, len, mem, tx⟩ := hz
    obtain ⟨x, tk, e1, e2⟩ := tx e List.mem_cons_self
    obtain ⟨h, v⟩ := e
    simp only at e1 e2
    subst e1 e2
    refine wpAny_bind (wpAny_holding (R1.discard (s := { s with heap := h1, drawn := d }) fun b2 h2 only2 R2 => wpAny_bind (same_epoch (s := { s with heap := h2, drawn := d }) (Ro.at fun ob hb => ((only.trans only2).2 o ne.symm).trans hb) Go (wpAny_pure ⟨h2, _, rfl, only.trans only2, R2, nd.erase x, ?_, fun y => ?_, fun e he => tx e (List.mem_cons_of_mem _ he)⟩))))
    · exact Nat.le_trans List.length_erase_le len
    · rw [← mem y, nd.mem_erase_iff, List.map_cons, List.mem_cons]
      show (y ≠ x ∧ y ∈ zs) ∧ _ ↔ y ∈ zs ∧ ¬ (y = x ∨ _)
      rw [not_or]
      exact ⟨fun z => ⟨z.1.2, z.1.1, z.2⟩, fun z => ⟨⟨z.2.1, z.1⟩, z.2.2⟩⟩
  · obtain ⟨h1, zs, rfl, only, R1, nd, len, mem, _⟩ := hz
    refine wpAny_pure (tidy (s := { s with heap := h1, drawn := d }) R1 (by omega) fun h2 only2 R2 => fin h2 d zs (only.trans only2) R2 ⟨fun x => by rw [← mem x]; simp, len⟩)
  · rw [((pm.map keyT).trans Go.keys).mem_iff]
/-- xs - ys -/
theorem call_minus {Q : Value → Shared → Prop} (Ra : SetT w s.heap a xs) (Ro : SetT w s.heap o ys) (ne : a ≠ o) (few : xs.length < 32)
    (fin : ∀ h' d zs, (∀ b ob, s.heap.get? b = some ob → h'.get? b = some ob) → SetT w h' s.heap.objs.size zs → Less xs ys zs → Q (.ref s.heap.objs.size) { s with heap := h', drawn := d }) : wpAny (model P w) A (call (.builtin "set.__sub__") [.ref a, .ref o]) Q E s := by
  refine wpAny_call_entry PySem.F.slot_set_sub Ra.is entry_minus ?_ (PySem.F.args_set_sub_2 _ _)
  show wpAny _ _ (Builtin.Frozenset.slot1 _ _ >>= _) _ _ _
  refine wpAny_bind (m := Builtin.Frozenset.slot1 _ _) (wpAny_pure ?_)
  refine wpAny_bind (wpAny_bind (any_yes Ra.is (any_yes Ro.is ?_)))
  rw [if_neg (by decide)]
  refine wpAny_bind (wpAny_pure (wpAny_bind ?_))
  have lta := Ra.lt
  have lto := Ro.lt
  have is := Ro.is
  obtain ⟨es, ep, t, Ra, Ga⟩ := Ra
  obtain ⟨fs, eo, u, Ro, Go⟩ := Ro
  have sa := Ga.size
  have so := Go.size
  unfold Builtin.Frozenset.difference
  dsimp only
  refine wpAny_bind (any_yes is ?_)
  rw [if_neg (by decide)]
  refine wpAny_bind (wpAny_pure ?_)
  rw [if_neg (by simp), if_pos rfl]
  refine wpAny_bind (size_of Ro Go (wpAny_bind (size_of Ra Ga ?_)))
  by_cases much : xs.length / 4 > ys.length
  · rw [if_pos much]
    refine wpAny_bind (wpAny_rule (wpAny_bind (copy Ra Ga (by omega) fun h1 d1 gs p1 v ws keep R1 G1 mem len mk => wpAny_bind (wpAny_pure (wpAny_bind (wpAny_holding ?_))))))
    refine take_away (s := { s with heap := h1, drawn := d1 }) ⟨_, _, _, R1, G1⟩ (Ro.at fun ob hb => keep _ _ hb) Go (Nat.ne_of_gt lto) (by omega) (by omega) fun h2 d2 zs only R2 less => wpAny_pure (wpAny_pure ⟨_, rfl, fin h2 d2 zs (fun b ob hb => (only.2 b (Nat.ne_of_lt (Heap.lt_size hb))).trans (keep b ob hb)) R2 ⟨fun x => by rw [less.1 x, mem x], Nat.le_trans less.2 len⟩⟩)
  · rw [if_neg much]
    unfold Builtin.Frozenset.baseOf
    refine wpAny_bind (wpAny_bind (wpAny_isInstance Ra.is sub_set_self (wpAny_pure ?_)))
    rw [if_pos rfl]
    refine wpAny_bind (new_set fun h1 t1 keep size1 R1 G1 m1 dm1 => wpAny_bind (wpAny_pure (wpAny_bind ?_)))
    have Ra1 : At h1 a es ep t := Ra.at fun ob hb => keep _ _ hb
    have Ro1 : At h1 o fs eo u := Ro.at fun ob hb => keep _ _ hb
    unfold setEpoch
    refine wpAny_bind (Ra1.state (s := { s with heap := h1 }) Ga.fit (wpAny_pure (wpAny_bind (wpAny_holding ?_))))
    dsimp only
    rw [if_pos rfl]
    refine wpAny_bind (Ra1.unseenF (s := { s with heap := h1 }) Ga (fun b hb => ?_) R1 G1 fun gs d h2 p2 t2 pm only2 R2 G2 m2 => ?_)
    · rcases List.mem_cons.mp hb with rfl | hb
      · exact ⟨_, _, _, _, Ro1, Go⟩
      · obtain rfl := List.mem_singleton.mp hb
        exact ⟨_, _, _, _, R1, G1⟩
    have nea : a ≠ s.heap.objs.size := Nat.ne_of_lt lta
    have neo : o ≠ s.heap.objs.size := Nat.ne_of_lt lto
    have bound : xs.length + 1 < scanBound := by unfold scanBound; omega
    refine wpAny_bind (wpAny_forIn_array' _ (fun l _ z => ∃ h' zs, z = { s with heap := h', drawn := d } ∧ Heap.SameBut s.heap.objs.size h2 h' ∧ SetT w h' s.heap.objs.size zs ∧ zs.length + l.length ≤ xs.length ∧ (∀ x, (x ∈ zs ∨ x ∈ l.map keyT ∧ x ∉ ys) ↔ (x ∈ xs ∧ x ∉ ys)) ∧ ∀ e ∈ l, Tx w e) _ (fun e rest b z hz => ?_) (fun b z hz => ?_) gs PUnit.unit ⟨h2, [], rfl, Heap.SameBut.refl _ h2, ⟨_, _, _, R2, G2⟩, ?_, fun x => ?_, fun e he => Ga.tx e (pm.mem_iff.mp he)⟩)
    · obtain ⟨h3, zs, rfl, only, R3, len, mem, tx⟩ := hz
      obtain ⟨x, tk, e1, e2⟩ := tx e List.mem_cons_self
      obtain ⟨h, v⟩ := e
      simp only at e1 e2
      subst e1 e2
      rw [List.length_cons] at len
      have Ra3 : At h3 a es ep t := Ra1.at fun ob hb => ((only2.trans only).2 a nea).trans hb
      have Ro3 : At h3 o fs eo u := Ro1.at fun ob hb => ((only2.trans only).2 o neo).trans hb
      have rest_ : ∀ y, (y = x ∨ y ∈ rest.map keyT) ↔ y ∈ ((hashStr w x, Value.str x tk) :: rest).map keyT := fun y => by
        rw [List.map_cons, List.mem_cons]
        exact Iff.rfl
      dsimp only
      rw [if_pos rfl]
      refine wpAny_bind (wpAny_holding (wpAny_bind (Ro3.find (s := { s with heap := h3, drawn := d }) Go (fun j e _ _ yes => wpAny_bind (wpAny_pure ?_)) fun no => wpAny_bind (wpAny_pure ?_))))
      · rw [if_neg (by simp)]
        refine wpAny_pure (wpAny_bind (same_epoch (s := { s with heap := h3, drawn := d }) Ra3 Ga (wpAny_pure ⟨h3, zs, rfl, only, R3, by omega, fun y => ?_, fun e he => tx e (List.mem_cons_of_mem _ he)⟩)))
        rw [← mem y, ← rest_ y]
        exact or_congr_right ⟨fun z => ⟨.inr z.1, z.2⟩, fun z => ⟨z.1.resolve_left fun c => z.2 (c ▸ yes), z.2⟩⟩
      · rw [if_pos (by simp)]
        refine wpAny_bind (R3.add (s := { s with heap := h3, drawn := d }) (by omega) fun h4 only4 R4 => wpAny_pure (wpAny_bind (same_epoch (s := { s with heap := h4, drawn := d }) (Ra3.at fun ob hb => (only4.2 a nea).trans hb) Ga (wpAny_pure ⟨h4, _, rfl, only.trans only4, R4, ?_, fun y => ?_, fun e he => tx e (List.mem_cons_of_mem _ he)⟩))))
        · have := len_ins (x := x) (xs := zs)
          omega
        · rw [← mem y, ← rest_ y, mem_ins]
          exact ⟨fun z => z.elim (fun z => z.elim (fun c => .inr ⟨.inl c, c ▸ no⟩) .inl) fun c => .inr ⟨.inr c.1, c.2⟩, fun z => z.elim (fun c => .inl (.inr c)) fun z => z.1.elim (fun c => .inl (.inl c)) fun c => .inr ⟨c, z.2⟩⟩
    · obtain ⟨h3, zs, rfl, only, R3, len, mem, _⟩ := hz
      refine wpAny_pure (wpAny_pure (wpAny_pure ⟨_, rfl, fin h3 d zs (fun b ob hb => ?_) R3 ⟨fun x => by rw [← mem x]; simp, by simpa using len⟩⟩))
      have nb : b ≠ s.heap.objs.size := Nat.ne_of_lt (Heap.lt_size hb)
      exact ((only2.trans only).2 b nb).trans (keep b ob hb)
    · have := pm.length_eq
      rw [Array.length_toList, Array.length_toList] at this
      simp only [List.length_nil, Array.length_toList]
      omega
    · rw [((pm.map keyT).trans Ga.keys).mem_iff]
      simp
end
section
variable {P : Program} {w : World} {A : Around} {E : Value → Shared → Prop} {s : Shared} {h h' : Heap} {a : Addr} {xs ys : List Str} {x : Str}
/-- set(l), l a list or a tuple of texts -/
theorem call_setT {l : Addr} {its : Array Value} (xs : List Str) {Q : Value → Shared → Prop} (hh : A.handled = none) (src : s.heap.IsList l its ∨ s.heap.IsTuple l its) (hv : ∀ (i : Nat) (v : Value), its[i]? = some v → ∃ x t, xs[i]? = some x ∧ v = Value.str x t) (hn : its.size = xs.length) (room : xs.length + 1 < scanBound)
    (fin : ∀ (h' : Heap) (tk : Nat), Of w h' s.heap.objs.size xs → (∀ b o, s.heap.get? b = some o → h'.get? b = some o) → Q (.ref s.heap.objs.size) { s with heap := h', toks := tk }) : wpAny (model P w) A (call (.type "set") [.ref l]) Q E s := by
  obtain ⟨c0, c1, mro⟩ := PySem.F.called_set.mro
  have made := PySem.F.called_set.made
  have sub0 := PySem.F.called_set.sub
  have n1 := PySem.F.called_set.notType
  have n2 := PySem.F.called_set.canCreate
  have n3 := PySem.F.typeCall_set_1 (.ref l)
  have i1 := PySem.F.called_set.init.lookup
  have i2 := PySem.F.called_set.init.bind (.ref s.heap.objs.size)
  refine wpAny_call (codeAny_of_tree ?_)
  show wpAny _ _ (callAny (.type "set") _) _ _ _
  refine wpAny_pure ⟨Code.quiet_builtin _ (by decide +kernel), codeAny_builtin PySem.F.entry_type_call ?_⟩
  rw [Around.under_plain (weight_type_call_type "set" [.ref l] []) rfl]
  repeat (any_goals first | assumption | wp_step)
  refine codeAny_mono (new_code (.ref l) (E := E) (Q := fun ob z => ∃ h' t, ob = .ref s.heap.objs.size ∧ z = { s with heap := h' } ∧ (∀ b o, s.heap.get? b = some o → h'.get? b = some o) ∧ At h' s.heap.objs.size #[] 0 t ∧ Gd w #[] t [] ∧ t.dummies = #[]) fun h' keep t R G d => ⟨h', t, rfl, rfl, keep, R, G, d⟩) fun r z hr => ?_
  rcases r with e | fl
  · exact hr
  cases fl with
  | ret ob =>
    obtain ⟨h1, t, rfl, rfl, keep, R, G, d⟩ := hr
    have ty := R.is (s := { s with heap := h1 })
    repeat (any_goals first | assumption | wp_step)
    refine codeAny_mono (codeAny_call_builtin (R := wants (fun r z => r = .none ∧ ∃ h' tk, z = { s with heap := h', toks := tk } ∧ Of w h' s.heap.objs.size xs ∧ ∀ b o, s.heap.get? b = some o → h'.get? b = some o) E) PySem.F.called_set.init.plain PySem.F.entry_set_init (check_set_init_1 ty ?_)) fun r2 z2 hr2 => ?_
    · unfold Builtin.«set.__init__» noKeywords setUsed
      have unused : (t.fill != 0) = false := by
        have fit := G.fit
        unfold SetTable.fits at fit
        have none := beq_iff_eq.mp (Bool.and_eq_true_iff.mp fit).1
        unfold SetTable.fill
        rw [none, d]
        rfl
      have used : ∀ {Q' : _ → Shared → Prop} {E' : Value → Shared → Prop}, Q' (#[], 0, t) { s with heap := h1 } → wpAny (model P w) A.in1.in1 (setState s.heap.objs.size) Q' E' { s with heap := h1 } := fun q => R.state G.fit q
      have R0 := R
      obtain ⟨⟨c1, c2, c3, c4⟩, ho, ⟨rfl, rfl, rfl⟩, hd⟩ := R
      generalize hU : Builtin.Frozenset.updateFrom = U
      generalize hV : setState = V at used ⊢
      wp_walk
      refine used ?_
      dsimp only
      rw [unused]
      refine wpAny_pure ?_
      rw [if_neg (by decide)]
      subst hU
      subst hV
      have kept : h1.IsList l its ∨ h1.IsTuple l its := src.imp (fun z => z.at fun o e => keep _ o e) (fun z => z.at fun o e => keep _ o e)
      have last : wpAny (model P w) A.in1.in1 (Builtin.Frozenset.updateFrom "set.__init__" s.heap.objs.size (.ref l)) (fun _ z => ∃ h' tk, z = { s with heap := h', toks := tk } ∧ Of w h' s.heap.objs.size xs ∧ ∀ b o, s.heap.get? b = some o → h'.get? b = some o) E { s with heap := h1 } :=
        fromSeq (s := { s with heap := h1 }) _ xs hh kept hv hn room ⟨_, _, _, R0, G⟩ fun h2 tk so rest => ⟨h2, tk, rfl, so, fun b o e => rest b o (Nat.ne_of_lt (Heap.lt_size e)) (keep b o e)⟩
      refine wpAny_bind (wpAny_mono last (fun _ z hz => ?_) fun _ _ y => y)
      obtain ⟨h2, tk, rfl, so, keep2⟩ := hz
      exact wpAny_pure ⟨rfl, h2, tk, rfl, so, keep2⟩
    · rcases r2 with e | fl2
      · exact hr2
      cases fl2 with
      | ret r =>
        obtain ⟨rfl, h', tk, rfl, so, keep2⟩ := hr2
        repeat (any_goals first | assumption | wp_step)
        exact fin _ _ so keep2
      | _ => exact hr2.elim
  | _ => exact hr.elim
end
section
variable {P : Program} {w : World} {A : Around} {E : Value → Shared → Prop} {s : Shared} {a : Addr} {xs : List Str}
def keyV (v : Value) : Str := match v with
  | .str x _ => x
  | _ => Str.empty
theorem texts_are : ∀ (l : List Value), (∀ v ∈ l, ∃ x tk, v = Value.str x tk) → StrsAre l (l.map keyV)
  | [], _ => .nil
  | v :: l, h => by
    obtain ⟨x, tk, rfl⟩ := h v List.mem_cons_self
    exact .cons x tk (texts_are l fun u hu => h u (List.mem_cons_of_mem _ hu))
/-- sorted(xs), xs a set of texts -/
theorem sorted_setT {Q : Value → Shared → Prop} (R : SetT w s.heap a xs) (hh : A.handled = none) (h64 : xs.length < 64)
    (fin : ∀ s' p (out : Array Value) (c : Nat) (ys : List Str), (∀ b o, s.heap.get? b = some o → s'.heap.get? b = some o) → s'.gens = s.gens → s'.os = s.os → s.heap.objs.size ≤ p → s'.heap.get? p = some (seqObj "list" out c) → StrsAre out.toList ys → ys.Perm xs → sortedS ys = true → Q (.ref p) s') :
    wpAny (model P w) A (call (.builtin "sorted") [.ref a]) Q E s := by
  obtain ⟨es, ep, t, ⟨o, ho, ex, hd⟩, G⟩ := R
  refine Calls.call_function_entry kind_sorted plain_sorted entry_sorted (args_sorted1 _) ?_
  unfold Builtin.«sorted»
  refine wpAny_bind (m := checkCount _ 1 1 _) (wpAny_pure (wpAny_bind (collect_set (A := A.in1) hh ⟨o, ho, ex.1, hd⟩ G.fit G.few G.ris G.led fun z vs keep wide gens os pm => ?_)))
  have tex : StrsAre vs (vs.map keyV) := texts_are vs fun v hv => by
    obtain ⟨e, he, rfl⟩ := List.mem_map.mp (pm.mem_iff.mp hv)
    obtain ⟨x, tk, e1, _⟩ := G.tx e he
    exact ⟨x, tk, e1⟩
  have same : (vs.map keyV).Perm xs := by
    have q := pm.map keyV
    rw [List.map_map] at q
    exact q.trans G.keys
  have count : vs.length = xs.length := by rw [← same.length_eq, List.length_map]
  refine wpAny_bind (wpAny_newList ?_ (by rw [count, sizeLine_eq]; omega))
  have here : (z.heap.push (seqObj "list" vs.toArray 0)).get? z.heap.objs.size = some (seqObj "list" vs.toArray 0) := Heap.get?_push_size _ rfl
  refine wpAny_bind (wpAny_holding (wpAny_call_entry slot_list_sort ⟨_, here, rfl⟩ entry_list_sort (list_sort_treeK strKind_oneLt here tex.keysOf (fun v₁ v₂ rest e => keyKind_strs (e ▸ tex)) (by omega) fun st hp hs => ⟨_, rfl, ?_⟩) (args_list_sort _)))
  obtain ⟨ys, y1, y2, y3⟩ := sorted_out_str tex hp hs
  obtain ⟨c, at_⟩ := sortedHeap_at (vs := vs) (out := (arrOf st).map (·.2)) here
  refine wpAny_pure ⟨_, rfl, fin _ _ _ c ys (fun b ob hb => ?_) gens os wide at_ y1 (y2.trans same) y3⟩
  have old := keep b ob hb
  have lt := Heap.lt_size old
  exact (sortedHeap_old (Nat.ne_of_lt lt) (by rw [size_push']; exact Nat.lt_succ_of_lt lt)).trans (Heap.get?_push_of_some _ old)
end
/-! ### as rules -/
/-- the set of texts at a -/
def TxO (w : World) (a : Addr) (xs : List Str) : HO := .ext fun h => SetT w h a xs
section
variable {X : Cx}
theorem txO_new {w : World} {P : Program} {H : Hp} {h : Heap} {a : Addr} {xs : List Str} (R : SetT w h a xs) : ObjOk P w H h a (TxO w a xs) := by
  have ⟨_, _, _, ⟨o, here, _⟩, _⟩ := R
  exact ⟨R, ⟨o, here⟩, fun h1 h2 p k => SetT.at p k⟩
theorem txO_get {pins : List (Addr × Obj)} {σ : L2.St} {H : Hp} {s : Shared} {a : Addr} {xs : List Str} (I : L2.Inv X pins σ H s) (ha : H a = some (TxO X.w a xs)) : SetT X.w s.heap a xs := (I.hok a _ ha).1
theorem txO_nd {pins : List (Addr × Obj)} {σ : L2.St} {H : Hp} {s : Shared} {a : Addr} {xs : List Str} (I : L2.Inv X pins σ H s) (ha : H a = some (TxO X.w a xs)) : xs.Nodup := by
  obtain ⟨_, _, _, _, G⟩ := txO_get I ha
  exact G.nd
/-- a new set of texts is there, the order of draws may be another -/
theorem new_there {pins : List (Addr × Obj)} {σ : L2.St} {H : Hp} {s : Shared} {h' : Heap} {d : Drawn} {tk : Nat} {zs : List Str} (I : L2.Inv X pins σ H s) (keep : ∀ b o, s.heap.get? b = some o → h'.get? b = some o) (R : SetT X.w h' s.heap.objs.size zs) : L2.Inv X pins σ (upd H s.heap.objs.size (TxO X.w s.heap.objs.size zs)) { s with heap := h', drawn := d, toks := tk } := by
  have free : H s.heap.objs.size = none := I.hok.fresh (Nat.le_refl _)
  exact I.call (h' := h') (d' := d) (t' := tk) (g' := s.gens) (ch := []) (Un.laid keep (Nat.le_refl _) free) (I.hok.laid keep (Nat.le_refl _) (txO_new R)) I.bare (fun _ z => nomatch z)
/-- set(xs) of a list or a tuple of texts -/
def rSetT (K : PySem.W.Frag) (w : World) : List V → Hp → VK → Prop := fun vs H Q => ∃ (l : Addr) (xs : List Str), vs = [.ref l] ∧ (SqL K H l (xs.map V.str) ∨ SqT K H l (xs.map V.str)) ∧ xs.length < 1000 ∧ ∀ p ds, H p = none → ds.Nodup → (∀ x, x ∈ ds ↔ x ∈ xs) → ds.length ≤ xs.length → Q (.ref p) (upd H p (TxO w p ds))
theorem cr_setT (hc : X.calm = true) : CallR X (.type "set") (rSetT X.K X.w) := fun pins s σ H vs us Q I r h => by
  obtain ⟨l, xs, rfl, hs, few, q⟩ := h
  have src : ∃ its : List Value, Vals (xs.map V.str) its ∧ (s.heap.IsList l its.toArray ∨ s.heap.IsTuple l its.toArray) := by
    rcases hs with hs | hs
    · obtain ⟨its, rv, hl, _⟩ := I.list hs
      exact ⟨its, rv, .inl hl.isList⟩
    · obtain ⟨its, rv, hl, _⟩ := I.tuple hs
      exact ⟨its, rv, .inr hl⟩
  obtain ⟨its, rv, src⟩ := src
  rw [Vals.ref1 r]
  have hlen : its.length = xs.length := by rw [← rv.length, List.length_map]
  refine call_setT xs (I.ok.hd hc) src (fun i v hi => ?_) (by rw [List.size_toArray]; exact hlen) (by unfold scanBound; omega) fun h' tk hT hk => ?_
  · obtain ⟨x, hx, rx⟩ := UP.vals_get rv (show its[i]? = some v by rw [← List.getElem?_toArray]; exact hi)
    obtain ⟨y, hy, rfl⟩ := UW.map_str_get hx
    obtain ⟨t, rfl⟩ := rx
    exact ⟨y, t, hy, rfl⟩
  · obtain ⟨ds, h2, h3, h4⟩ := hT
    have nd : ds.Nodup := by
      obtain ⟨_, _, _, _, G⟩ := h4
      exact G.nd
    exact ⟨.ref _, _, new_there I hk h4, rfl, q _ ds (I.hok.fresh (Nat.le_refl _)) nd h2 h3⟩
/-- xs | ys -/
def rOrT (w : World) : V → V → Hp → VK → Prop := fun x y H Q => ∃ (a o : Addr) (xs ys : List Str), x = .ref a ∧ y = .ref o ∧ a ≠ o ∧ H a = some (TxO w a xs) ∧ H o = some (TxO w o ys) ∧ xs.length + ys.length < 64 ∧ ∀ p zs, H p = none → zs.Nodup → Both xs ys zs → Q (.ref p) (upd H p (TxO w p zs))
theorem or_orT : OpR X (binaryOp .BitOr) (rOrT X.w) := fun pins s σ H x y u v Q I rx ry h => by
  obtain ⟨a, o, xs, ys, rfl, rfl, ne, ha, ho, few, q⟩ := h
  cases rx
  cases ry
  have Ra := txO_get I ha
  have Ro := txO_get I ho
  refine wpAny_binaryOp_same Ra.is Ro.is PySem.F.fills_set_or PySem.F.slot_set_or (call_or Ra Ro ne (by omega) fun h' d zs keep R both => ⟨nofun, ?_⟩)
  have nd : zs.Nodup := by
    obtain ⟨_, _, _, _, G⟩ := R
    exact G.nd
  exact ⟨.ref _, _, new_there I keep R, rfl, q _ zs (I.hok.fresh (Nat.le_refl _)) nd both⟩
/-- xs - ys -/
def rMinusT (w : World) : V → V → Hp → VK → Prop := fun x y H Q => ∃ (a o : Addr) (xs ys : List Str), x = .ref a ∧ y = .ref o ∧ a ≠ o ∧ H a = some (TxO w a xs) ∧ H o = some (TxO w o ys) ∧ xs.length < 32 ∧ ∀ p zs, H p = none → zs.Nodup → Less xs ys zs → Q (.ref p) (upd H p (TxO w p zs))
theorem or_minusT : OpR X (binaryOp .Sub) (rMinusT X.w) := fun pins s σ H x y u v Q I rx ry h => by
  obtain ⟨a, o, xs, ys, rfl, rfl, ne, ha, ho, few, q⟩ := h
  cases rx
  cases ry
  have Ra := txO_get I ha
  have Ro := txO_get I ho
  refine wpAny_binaryOp_same Ra.is Ro.is PySem.F.fills_set_sub PySem.F.slot_set_sub (call_minus Ra Ro ne few fun h' d zs keep R less => ⟨nofun, ?_⟩)
  have nd : zs.Nodup := by
    obtain ⟨_, _, _, _, G⟩ := R
    exact G.nd
  exact ⟨.ref _, _, new_there I keep R, rfl, q _ zs (I.hok.fresh (Nat.le_refl _)) nd less⟩
/-- sorted(xs), xs a set of texts -/
def rSortT (w : World) : List V → Hp → VK → Prop := fun vs H Q => ∃ (a : Addr) (xs : List Str), vs = [.ref a] ∧ H a = some (TxO w a xs) ∧ xs.length < 64 ∧ ∀ (ys : List Str) (p : Addr), ys.Perm xs → sortedS ys = true → H p = none → Q (.ref p) (upd H p (.lst (ys.map V.str)))
theorem cr_sortT (hc : X.calm = true) : CallR X (.builtin "sorted") (rSortT X.w) := fun pins s σ H vs us Q I r h => by
  obtain ⟨a, xs, rfl, ha, h64, q⟩ := h
  rw [Vals.ref1 r]
  refine sorted_setT (txO_get I ha) (I.ok.hd hc) h64 fun s' p out c ys keep gens os new at_ tex pm srt => ?_
  have few : (ys.map V.str).length ≤ sizeLine := by rw [List.length_map, pm.length_eq, sizeLine_eq]; omega
  have free : H p = none := I.hok.fresh new
  have J : L2.Inv X pins σ (upd H p (.lst (ys.map V.str))) { s with heap := s'.heap, gens := s'.gens, drawn := s'.drawn, toks := s'.toks } :=
    I.call (ch := []) (Un.laid keep new free) (I.hok.laid keep new ⟨few, out.toList, c, vals_of_strs tex, at_⟩) (by rw [gens]; exact I.bare) (fun _ z => nomatch z)
  have e : s' = { s with heap := s'.heap, gens := s'.gens, drawn := s'.drawn, toks := s'.toks } := by
    obtain ⟨_, _, _, _, _⟩ := s'
    obtain ⟨_, _, _, _, _⟩ := s
    cases os
    rfl
  rw [e]
  exact ⟨.ref p, _, J, rfl, q ys p pm srt free⟩
end
end UZ
-- US
-- UX
-- UH
-- UZ
namespace K29
open PySem L2 UW UP UT UD
def topS (i : Nat) : Stmt := PySem.Challenge.pw_unitwants_k29_causes.main.body.getD i (.Pass ⟨0, 0, 0, 0⟩)
abbrev s_Lack_init : Stmt := inClass (topS 4) 0
abbrev N_Lack_init : List Str := ["self", "missing", "chain"]
theorem sc_Lack_init : FnScope N_Lack_init ["self", "missing", "chain"] (defScope s_Lack_init) := ⟨rfl, rfl, rfl, by decide +kernel, rfl, by decide +kernel, by decide +kernel⟩
abbrev s_Clash_init : Stmt := inClass (topS 5) 0
abbrev N_Clash_init : List Str := ["self", "name"]
theorem sc_Clash_init : FnScope N_Clash_init ["self", "name"] (defScope s_Clash_init) := ⟨rfl, rfl, rfl, by decide +kernel, rfl, by decide +kernel, by decide +kernel⟩
abbrev s_Knot_init : Stmt := inClass (topS 6) 0
abbrev N_Knot_init : List Str := ["self", "ring"]
theorem sc_Knot_init : FnScope N_Knot_init ["self", "ring"] (defScope s_Knot_init) := ⟨rfl, rfl, rfl, by decide +kernel, rfl, by decide +kernel, by decide +kernel⟩
abbrev s_at_once : Stmt := topS 10
abbrev N_at_once : List Str := ["shelf", "demand", "name", "way", "needed", "barred", "other"]
theorem sc_at_once : FnScope N_at_once ["shelf", "demand"] (defScope s_at_once) := ⟨rfl, rfl, rfl, by decide +kernel, rfl, by decide +kernel, by decide +kernel⟩
abbrev s_causes : Stmt := topS 11
abbrev N_causes : List Str := ["shelf", "demands", "demand", "found", "front", "reached", "other"]
theorem sc_causes : FnScope N_causes ["shelf", "demands"] (defScope s_causes) := ⟨rfl, rfl, rfl, by decide +kernel, rfl, by decide +kernel, by decide +kernel⟩
abbrev s_chain_to : Stmt := topS 12
abbrev N_chain_to : List Str := ["found", "goal", "links", "link"]
theorem sc_chain_to : FnScope N_chain_to ["found", "goal"] (defScope s_chain_to) := ⟨rfl, rfl, rfl, by decide +kernel, rfl, by decide +kernel, by decide +kernel⟩
abbrev s_followed : Stmt := topS 13
abbrev N_followed : List Str := ["shelf", "demands", "found", "name", "way", "needs", "missing", "other"]
theorem sc_followed : FnScope N_followed ["shelf", "demands"] (defScope s_followed) := ⟨rfl, rfl, rfl, by decide +kernel, rfl, by decide +kernel, by decide +kernel⟩
abbrev s_clash_in : Stmt := topS 14
abbrev N_clash_in : List Str := ["demands", "name", "way"]
theorem sc_clash_in : FnScope N_clash_in ["demands"] (defScope s_clash_in) := ⟨rfl, rfl, rfl, by decide +kernel, rfl, by decide +kernel, by decide +kernel⟩
abbrev s_next_in : Stmt := topS 16
abbrev N_next_in : List Str := ["waiting", "order", "name", "other"]
theorem sc_next_in : FnScope N_next_in ["waiting", "order"] (defScope s_next_in) := ⟨rfl, rfl, rfl, by decide +kernel, rfl, by decide +kernel, by decide +kernel⟩
abbrev s_free_order : Stmt := topS 17
abbrev N_free_order : List Str := ["shelf", "names", "waiting", "order", "least", "name", "other"]
theorem sc_free_order : FnScope N_free_order ["shelf", "names"] (defScope s_free_order) := ⟨rfl, rfl, rfl, by decide +kernel, rfl, by decide +kernel, by decide +kernel⟩
abbrev s_ring_in : Stmt := topS 18
abbrev N_ring_in : List Str := ["shelf", "stuck", "trail", "name", "other"]
theorem sc_ring_in : FnScope N_ring_in ["shelf", "stuck"] (defScope s_ring_in) := ⟨rfl, rfl, rfl, by decide +kernel, rfl, by decide +kernel, by decide +kernel⟩
abbrev s_knot_in : Stmt := topS 19
abbrev N_knot_in : List Str := ["shelf", "names", "order", "stuck", "name"]
theorem sc_knot_in : FnScope N_knot_in ["shelf", "names"] (defScope s_knot_in) := ⟨rfl, rfl, rfl, by decide +kernel, rfl, by decide +kernel, by decide +kernel⟩
abbrev s_Stand_init : Stmt := inClass (topS 21) 0
abbrev N_Stand_init : List Str := ["self", "wished", "up", "later", "back"]
theorem sc_Stand_init : FnScope N_Stand_init ["self", "wished", "up", "later", "back"] (defScope s_Stand_init) := ⟨rfl, rfl, rfl, by decide +kernel, rfl, by decide +kernel, by decide +kernel⟩
abbrev s_open_in : Stmt := topS 22
abbrev N_open_in : List Str := ["stand", "name"]
theorem sc_open_in : FnScope N_open_in ["stand"] (defScope s_open_in) := ⟨rfl, rfl, rfl, by decide +kernel, rfl, by decide +kernel, by decide +kernel⟩
abbrev s_wants_of : Stmt := topS 24
abbrev N_wants_of : List Str := ["shelf", "stand", "name", "own", "other"]
theorem sc_wants_of : FnScope N_wants_of ["shelf", "stand", "name"] (defScope s_wants_of) := ⟨rfl, rfl, rfl, by decide +kernel, rfl, by decide +kernel, by decide +kernel⟩
abbrev s_knot_comes : Stmt := topS 25
abbrev N_knot_comes : List Str := ["shelf", "stand", "come", "on", "left", "name", "way"]
theorem sc_knot_comes : FnScope N_knot_comes ["shelf", "stand", "come"] (defScope s_knot_comes) := ⟨rfl, rfl, rfl, by decide +kernel, rfl, by decide +kernel, by decide +kernel⟩
abbrev s_words_of : Stmt := topS 26
abbrev N_words_of : List Str := ["shelf", "stand", "had", "wanted", "come", "fresh", "held", "truths", "demand", "word", "is_so", "name"]
theorem sc_words_of : FnScope N_words_of ["shelf", "stand", "had", "wanted"] (defScope s_words_of) := ⟨rfl, rfl, rfl, by decide +kernel, rfl, by decide +kernel, by decide +kernel⟩
abbrev s_Plan_init : Stmt := inClass (topS 28) 0
abbrev N_Plan_init : List Str := ["self", "name", "way", "demands", "dropped"]
theorem sc_Plan_init : FnScope N_Plan_init ["self", "name", "way", "demands", "dropped"] (defScope s_Plan_init) := ⟨rfl, rfl, rfl, by decide +kernel, rfl, by decide +kernel, by decide +kernel⟩
abbrev s_Plan_len : Stmt := inClass (topS 28) 1
abbrev N_Plan_len : List Str := ["self"]
theorem sc_Plan_len : FnScope N_Plan_len ["self"] (defScope s_Plan_len) := ⟨rfl, rfl, rfl, by decide +kernel, rfl, by decide +kernel, by decide +kernel⟩
abbrev s_behind : Stmt := topS 29
abbrev N_behind : List Str := ["stand", "plan", "on", "off", "name", "way", "cause"]
theorem sc_behind : FnScope N_behind ["stand", "plan"] (defScope s_behind) := ⟨rfl, rfl, rfl, by decide +kernel, rfl, by decide +kernel, by decide +kernel⟩
abbrev s_without_causes : Stmt := topS 30
abbrev N_without_causes : List Str := ["demands", "name", "way", "cause"]
theorem sc_without_causes : FnScope N_without_causes ["demands"] (defScope s_without_causes) := ⟨rfl, rfl, rfl, by decide +kernel, rfl, by decide +kernel, by decide +kernel⟩
abbrev s_spread : Stmt := topS 31
abbrev N_spread : List Str := ["shelf", "demands", "name", "way", "cause", "grown", "at", "had", "other", "turn"]
theorem sc_spread : FnScope N_spread ["shelf", "demands", "name", "way", "cause"] (defScope s_spread) := ⟨rfl, rfl, rfl, by decide +kernel, rfl, by decide +kernel, by decide +kernel⟩
abbrev s_core_on : Stmt := topS 32
abbrev N_core_on : List Str := ["shelf", "name", "clashing"]
theorem sc_core_on : FnScope N_core_on ["shelf", "name"] (defScope s_core_on) := ⟨rfl, rfl, rfl, by decide +kernel, rfl, by decide +kernel, by decide +kernel⟩
abbrev s_open_behind : Stmt := topS 33
abbrev N_open_behind : List Str := ["stand", "name", "demands"]
theorem sc_open_behind : FnScope N_open_behind ["stand", "name", "demands"] (defScope s_open_behind) := ⟨rfl, rfl, rfl, by decide +kernel, rfl, by decide +kernel, by decide +kernel⟩
abbrev s_next_want : Stmt := topS 34
abbrev N_next_want : List Str := ["shelf", "stand", "demands", "looked", "asker", "left", "name", "way", "cause"]
theorem sc_next_want : FnScope N_next_want ["shelf", "stand", "demands", "looked"] (defScope s_next_want) := ⟨rfl, rfl, rfl, by decide +kernel, rfl, by decide +kernel, by decide +kernel⟩
abbrev s_with_wants : Stmt := topS 35
abbrev N_with_wants : List Str := ["shelf", "stand", "core", "demands", "dropped", "looked", "found", "asker", "wanted", "had", "words"]
theorem sc_with_wants : FnScope N_with_wants ["shelf", "stand", "core"] (defScope s_with_wants) := ⟨rfl, rfl, rfl, by decide +kernel, rfl, by decide +kernel, by decide +kernel⟩
abbrev s_plan_on : Stmt := topS 36
abbrev N_plan_on : List Str := ["shelf", "stand", "name", "core", "ring", "demands", "dropped"]
theorem sc_plan_on : FnScope N_plan_on ["shelf", "stand", "name"] (defScope s_plan_on) := ⟨rfl, rfl, rfl, by decide +kernel, rfl, by decide +kernel, by decide +kernel⟩
abbrev s_plan_off : Stmt := topS 37
abbrev N_plan_off : List Str := ["shelf", "stand", "name"]
theorem sc_plan_off : FnScope N_plan_off ["shelf", "stand", "name"] (defScope s_plan_off) := ⟨rfl, rfl, rfl, by decide +kernel, rfl, by decide +kernel, by decide +kernel⟩
abbrev s_Rule_init : Stmt := inClass (topS 39) 0
abbrev N_Rule_init : List Str := ["self", "first", "times", "top", "burst", "span"]
theorem sc_Rule_init : FnScope N_Rule_init ["self", "first", "times", "top", "burst", "span"] (defScope s_Rule_init) := ⟨rfl, rfl, rfl, by decide +kernel, rfl, by decide +kernel, by decide +kernel⟩
abbrev s_Shelf_init : Stmt := inClass (topS 42) 0
abbrev N_Shelf_init : List Str := ["self", "units", "by_name", "unit"]
theorem sc_Shelf_init : FnScope N_Shelf_init ["self", "units"] (defScope s_Shelf_init) := ⟨rfl, rfl, rfl, by decide +kernel, rfl, by decide +kernel, by decide +kernel⟩
abbrev s_Shelf_names : Stmt := inClass (topS 42) 2
abbrev N_Shelf_names : List Str := ["self"]
theorem sc_Shelf_names : FnScope N_Shelf_names ["self"] (defScope s_Shelf_names) := ⟨rfl, rfl, rfl, by decide +kernel, rfl, by decide +kernel, by decide +kernel⟩
abbrev s_Shelf_has : Stmt := inClass (topS 42) 3
abbrev N_Shelf_has : List Str := ["self", "name"]
theorem sc_Shelf_has : FnScope N_Shelf_has ["self", "name"] (defScope s_Shelf_has) := ⟨rfl, rfl, rfl, by decide +kernel, rfl, by decide +kernel, by decide +kernel⟩
abbrev s_Shelf_unit : Stmt := inClass (topS 42) 4
abbrev N_Shelf_unit : List Str := ["self", "name"]
theorem sc_Shelf_unit : FnScope N_Shelf_unit ["self", "name"] (defScope s_Shelf_unit) := ⟨rfl, rfl, rfl, by decide +kernel, rfl, by decide +kernel, by decide +kernel⟩
abbrev s_Shelf_needing : Stmt := inClass (topS 42) 5
abbrev N_Shelf_needing : List Str := ["self", "name", "other"]
theorem sc_Shelf_needing : FnScope N_Shelf_needing ["self", "name"] (defScope s_Shelf_needing) := ⟨rfl, rfl, rfl, by decide +kernel, rfl, by decide +kernel, by decide +kernel⟩
abbrev s_Shelf_barred : Stmt := inClass (topS 42) 6
abbrev N_Shelf_barred : List Str := ["self", "name", "bars", "other"]
theorem sc_Shelf_barred : FnScope N_Shelf_barred ["self", "name"] (defScope s_Shelf_barred) := ⟨rfl, rfl, rfl, by decide +kernel, rfl, by decide +kernel, by decide +kernel⟩
abbrev s_Shelf_waited : Stmt := inClass (topS 42) 7
abbrev N_Shelf_waited : List Str := ["self", "name", "unit", "other"]
theorem sc_Shelf_waited : FnScope N_Shelf_waited ["self", "name"] (defScope s_Shelf_waited) := ⟨rfl, rfl, rfl, by decide +kernel, rfl, by decide +kernel, by decide +kernel⟩
abbrev s_Unit_init : Stmt := inClass (topS 44) 0
abbrev N_Unit_init : List Str := ["self", "name", "kind", "needs", "wants", "bars", "after", "opens", "rule"]
theorem sc_Unit_init : FnScope N_Unit_init ["self", "name", "kind", "needs", "wants", "bars", "after", "opens", "rule"] (defScope s_Unit_init) := ⟨rfl, rfl, rfl, by decide +kernel, rfl, by decide +kernel, by decide +kernel⟩
abbrev s_law_bag : Stmt := topS 46
abbrev N_law_bag : List Str := ["_law_script", "_law_at", "_law_cell", "_law_far"]
theorem sc_law_bag : FnScope N_law_bag ["_law_script", "_law_at"] (defScope s_law_bag) := ⟨rfl, rfl, rfl, by decide +kernel, rfl, by decide +kernel, by decide +kernel⟩
abbrev s_law_take : Stmt := topS 47
abbrev N_law_take : List Str := ["_law_bag_here", "_law_size", "_law_digit", "_law_primes", "_law_stage", "_law_basis", "_law_found"]
theorem sc_law_take : FnScope N_law_take ["_law_bag_here", "_law_size"] (defScope s_law_take) := ⟨rfl, rfl, rfl, by decide +kernel, rfl, by decide +kernel, by decide +kernel⟩
abbrev s_law_name : Stmt := topS 48
abbrev N_law_name : List Str := ["_law_bag_here", "_law_letters", "_law_size", "_law_spot"]
theorem sc_law_name : FnScope N_law_name ["_law_bag_here"] (defScope s_law_name) := ⟨rfl, rfl, rfl, by decide +kernel, rfl, by decide +kernel, by decide +kernel⟩
abbrev s_law_names : Stmt := topS 49
abbrev N_law_names : List Str := ["_law_bag_here", "_law_size", "_law_found", "_law_spot", "_law_word", "_law_one"]
theorem sc_law_names : FnScope N_law_names ["_law_bag_here", "_law_size"] (defScope s_law_names) := ⟨rfl, rfl, rfl, by decide +kernel, rfl, by decide +kernel, by decide +kernel⟩
abbrev s_law_rule_parts : Stmt := topS 50
abbrev N_law_rule_parts : List Str := ["_law_bag_here", "_law_some_here"]
theorem sc_law_rule_parts : FnScope N_law_rule_parts ["_law_bag_here"] (defScope s_law_rule_parts) := ⟨rfl, rfl, rfl, by decide +kernel, rfl, by decide +kernel, by decide +kernel⟩
abbrev s_law_rule : Stmt := topS 51
abbrev N_law_rule : List Str := ["_law_five"]
theorem sc_law_rule : FnScope N_law_rule ["_law_five"] (defScope s_law_rule) := ⟨rfl, rfl, rfl, by decide +kernel, rfl, by decide +kernel, by decide +kernel⟩
abbrev s_law_some : Stmt := topS 52
abbrev N_law_some : List Str := ["_law_bag_here", "_law_pool", "_law_most", "_law_left", "_law_found", "_law_turn"]
theorem sc_law_some : FnScope N_law_some ["_law_bag_here", "_law_pool", "_law_most"] (defScope s_law_some) := ⟨rfl, rfl, rfl, by decide +kernel, rfl, by decide +kernel, by decide +kernel⟩
abbrev s_law_facts : Stmt := topS 53
abbrev N_law_facts : List Str := ["_law_bag_here", "_law_most", "_law_named", "_law_strange", "_law_loose", "_law_found", "_law_word", "_law_pool", "_law_wide", "_law_musts", "_law_many", "_law_likes", "_law_foes", "_law_elders", "_law_sort", "_law_goal", "_law_five", "_law_one"]
theorem sc_law_facts : FnScope N_law_facts ["_law_bag_here", "_law_most"] (defScope s_law_facts) := ⟨rfl, rfl, rfl, by decide +kernel, rfl, by decide +kernel, by decide +kernel⟩
abbrev s_law_unit : Stmt := topS 54
abbrev N_law_unit : List Str := ["_law_word", "_law_facts_here", "_law_sort", "_law_musts", "_law_likes", "_law_foes", "_law_elders", "_law_goal", "_law_five", "_law_way_on"]
theorem sc_law_unit : FnScope N_law_unit ["_law_word", "_law_facts_here"] (defScope s_law_unit) := ⟨rfl, rfl, rfl, by decide +kernel, rfl, by decide +kernel, by decide +kernel⟩
abbrev s_law_units : Stmt := topS 55
abbrev N_law_units : List Str := ["_law_facts_here", "_law_word"]
theorem sc_law_units : FnScope N_law_units ["_law_facts_here"] (defScope s_law_units) := ⟨rfl, rfl, rfl, by decide +kernel, rfl, by decide +kernel, by decide +kernel⟩
abbrev s_law_needing : Stmt := topS 56
abbrev N_law_needing : List Str := ["_law_facts_here", "_law_word", "_law_one"]
theorem sc_law_needing : FnScope N_law_needing ["_law_facts_here", "_law_word"] (defScope s_law_needing) := ⟨rfl, rfl, rfl, by decide +kernel, rfl, by decide +kernel, by decide +kernel⟩
abbrev s_law_barred : Stmt := topS 57
abbrev N_law_barred : List Str := ["_law_facts_here", "_law_word", "_law_one"]
theorem sc_law_barred : FnScope N_law_barred ["_law_facts_here", "_law_word"] (defScope s_law_barred) := ⟨rfl, rfl, rfl, by decide +kernel, rfl, by decide +kernel, by decide +kernel⟩
abbrev s_law_waited : Stmt := topS 58
abbrev N_law_waited : List Str := ["_law_facts_here", "_law_word", "_law_named", "_law_one"]
theorem sc_law_waited : FnScope N_law_waited ["_law_facts_here", "_law_word"] (defScope s_law_waited) := ⟨rfl, rfl, rfl, by decide +kernel, rfl, by decide +kernel, by decide +kernel⟩
abbrev s_law_next : Stmt := topS 59
abbrev N_law_next : List Str := ["_law_facts_here", "_law_demand", "_law_word", "_law_way", "_law_found", "_law_one"]
theorem sc_law_next : FnScope N_law_next ["_law_facts_here", "_law_demand"] (defScope s_law_next) := ⟨rfl, rfl, rfl, by decide +kernel, rfl, by decide +kernel, by decide +kernel⟩
abbrev s_law_followed : Stmt := topS 60
abbrev N_law_followed : List Str := ["_law_facts_here", "_law_demands", "_law_found", "_law_waiting", "_law_demand"]
theorem sc_law_followed : FnScope N_law_followed ["_law_facts_here", "_law_demands"] (defScope s_law_followed) := ⟨rfl, rfl, rfl, by decide +kernel, rfl, by decide +kernel, by decide +kernel⟩
abbrev s_law_lacks : Stmt := topS 61
abbrev N_law_lacks : List Str := ["_law_facts_here", "_law_demands", "_law_word", "_law_way", "_law_one"]
theorem sc_law_lacks : FnScope N_law_lacks ["_law_facts_here", "_law_demands"] (defScope s_law_lacks) := ⟨rfl, rfl, rfl, by decide +kernel, rfl, by decide +kernel, by decide +kernel⟩
abbrev s_law_clash : Stmt := topS 62
abbrev N_law_clash : List Str := ["_law_demands", "_law_both", "_law_word", "_law_way"]
theorem sc_law_clash : FnScope N_law_clash ["_law_demands"] (defScope s_law_clash) := ⟨rfl, rfl, rfl, by decide +kernel, rfl, by decide +kernel, by decide +kernel⟩
abbrev s_law_knotted : Stmt := topS 63
abbrev N_law_knotted : List Str := ["_law_facts_here", "_law_some_here", "_law_left", "_law_turn", "_law_word", "_law_one"]
theorem sc_law_knotted : FnScope N_law_knotted ["_law_facts_here", "_law_some_here"] (defScope s_law_knotted) := ⟨rfl, rfl, rfl, by decide +kernel, rfl, by decide +kernel, by decide +kernel⟩
abbrev s_law_ways : Stmt := topS 64
abbrev N_law_ways : List Str := ["_law_demands", "_law_way", "_law_word", "_law_other"]
theorem sc_law_ways : FnScope N_law_ways ["_law_demands", "_law_way"] (defScope s_law_ways) := ⟨rfl, rfl, rfl, by decide +kernel, rfl, by decide +kernel, by decide +kernel⟩
abbrev s_law_stand_drawn : Stmt := topS 65
abbrev N_law_stand_drawn : List Str := ["_law_bag_here", "_law_facts_here", "_law_hoped", "_law_stood", "_law_owed", "_law_lost", "_law_words", "_law_turn", "_law_word", "_law_demands", "_law_ons", "_law_offs", "_law_more", "_law_risen", "_law_shut", "_law_fallen", "_law_down", "_law_ring", "_law_gone", "_law_one"]
theorem sc_law_stand_drawn : FnScope N_law_stand_drawn ["_law_bag_here", "_law_facts_here"] (defScope s_law_stand_drawn) := ⟨rfl, rfl, rfl, by decide +kernel, rfl, by decide +kernel, by decide +kernel⟩
abbrev s_law_stand : Stmt := topS 66
abbrev N_law_stand : List Str := ["_law_four"]
theorem sc_law_stand : FnScope N_law_stand ["_law_four"] (defScope s_law_stand) := ⟨rfl, rfl, rfl, by decide +kernel, rfl, by decide +kernel, by decide +kernel⟩
abbrev s_law_wants : Stmt := topS 67
abbrev N_law_wants : List Str := ["_law_facts_here", "_law_four", "_law_asker", "_law_likes", "_law_one"]
theorem sc_law_wants : FnScope N_law_wants ["_law_facts_here", "_law_four", "_law_asker"] (defScope s_law_wants) := ⟨rfl, rfl, rfl, by decide +kernel, rfl, by decide +kernel, by decide +kernel⟩
abbrev s_law_whole : Stmt := topS 68
abbrev N_law_whole : List Str := ["_law_thing"]
theorem sc_law_whole : FnScope N_law_whole ["_law_thing"] (defScope s_law_whole) := ⟨rfl, rfl, rfl, by decide +kernel, rfl, by decide +kernel, by decide +kernel⟩
abbrev s_law_caused : Stmt := topS 69
abbrev N_law_caused : List Str := ["_law_facts_here", "_law_four", "_law_demands", "_law_spot", "_law_word", "_law_way", "_law_cause", "_law_one"]
theorem sc_law_caused : FnScope N_law_caused ["_law_facts_here", "_law_four", "_law_demands", "_law_spot"] (defScope s_law_caused) := ⟨rfl, rfl, rfl, by decide +kernel, rfl, by decide +kernel, by decide +kernel⟩
abbrev s_law_right : Stmt := topS 70
abbrev N_law_right : List Str := ["_law_facts_here", "_law_four", "_law_told", "_law_word", "_law_way", "_law_demands", "_law_spot", "_law_one"]
theorem sc_law_right : FnScope N_law_right ["_law_facts_here", "_law_four", "_law_told", "_law_word", "_law_way"] (defScope s_law_right) := ⟨rfl, rfl, rfl, by decide +kernel, rfl, by decide +kernel, by decide +kernel⟩
abbrev s_law_asked : Stmt := topS 71
abbrev N_law_asked : List Str := ["_law_facts_here", "_law_own_shelf", "_law_four", "_law_word", "_law_at", "_law_down", "_law_told"]
theorem sc_law_asked : FnScope N_law_asked ["_law_facts_here", "_law_own_shelf", "_law_four", "_law_word"] (defScope s_law_asked) := ⟨rfl, rfl, rfl, by decide +kernel, rfl, by decide +kernel, by decide +kernel⟩
abbrev s_law : Stmt := topS 72
abbrev N_law : List Str := ["_law_script", "_law_k", "_law_bag_here", "_law_facts_here", "_law_own_shelf", "_law_four", "_law_words", "_law_turn"]
theorem sc_law : FnScope N_law ["_law_script"] (defScope s_law) := ⟨rfl, rfl, rfl, by decide +kernel, rfl, by decide +kernel, by decide +kernel⟩
structure Txt (K : PySem.W.Frag) (mg : Str → Option Value) where
  d_Lack_init : FuncData
  F_Lack_init : FunD K "__init__" "Lack.__init__" (defArgs s_Lack_init) (defBody s_Lack_init) (defScope s_Lack_init) [] [] (He.fAd K ("Lack", some "__init__")) d_Lack_init
  b_Lack_init : Binds K d_Lack_init ["self", "missing", "chain"] []
  d_Clash_init : FuncData
  F_Clash_init : FunD K "__init__" "Clash.__init__" (defArgs s_Clash_init) (defBody s_Clash_init) (defScope s_Clash_init) [] [] (He.fAd K ("Clash", some "__init__")) d_Clash_init
  b_Clash_init : Binds K d_Clash_init ["self", "name"] []
  d_Knot_init : FuncData
  F_Knot_init : FunD K "__init__" "Knot.__init__" (defArgs s_Knot_init) (defBody s_Knot_init) (defScope s_Knot_init) [] [] (He.fAd K ("Knot", some "__init__")) d_Knot_init
  b_Knot_init : Binds K d_Knot_init ["self", "ring"] []
  d_at_once : FuncData
  F_at_once : FunD K "at_once" "at_once" (defArgs s_at_once) (defBody s_at_once) (defScope s_at_once) [] [] (He.fAd K ("at_once", none)) d_at_once
  m_at_once : mg "at_once" = some (.ref (He.ga K "at_once"))
  b_at_once : Binds K d_at_once ["shelf", "demand"] []
  d_causes : FuncData
  F_causes : FunD K "causes" "causes" (defArgs s_causes) (defBody s_causes) (defScope s_causes) [] [] (He.fAd K ("causes", none)) d_causes
  m_causes : mg "causes" = some (.ref (He.ga K "causes"))
  b_causes : Binds K d_causes ["shelf", "demands"] []
  d_chain_to : FuncData
  F_chain_to : FunD K "chain_to" "chain_to" (defArgs s_chain_to) (defBody s_chain_to) (defScope s_chain_to) [] [] (He.fAd K ("chain_to", none)) d_chain_to
  m_chain_to : mg "chain_to" = some (.ref (He.ga K "chain_to"))
  b_chain_to : Binds K d_chain_to ["found", "goal"] []
  d_followed : FuncData
  F_followed : FunD K "followed" "followed" (defArgs s_followed) (defBody s_followed) (defScope s_followed) [] [] (He.fAd K ("followed", none)) d_followed
  m_followed : mg "followed" = some (.ref (He.ga K "followed"))
  b_followed : Binds K d_followed ["shelf", "demands"] []
  d_clash_in : FuncData
  F_clash_in : FunD K "clash_in" "clash_in" (defArgs s_clash_in) (defBody s_clash_in) (defScope s_clash_in) [] [] (He.fAd K ("clash_in", none)) d_clash_in
  m_clash_in : mg "clash_in" = some (.ref (He.ga K "clash_in"))
  b_clash_in : Binds K d_clash_in ["demands"] []
  d_next_in : FuncData
  F_next_in : FunD K "next_in" "next_in" (defArgs s_next_in) (defBody s_next_in) (defScope s_next_in) [] [] (He.fAd K ("next_in", none)) d_next_in
  m_next_in : mg "next_in" = some (.ref (He.ga K "next_in"))
  b_next_in : Binds K d_next_in ["waiting", "order"] []
  d_free_order : FuncData
  F_free_order : FunD K "free_order" "free_order" (defArgs s_free_order) (defBody s_free_order) (defScope s_free_order) [] [] (He.fAd K ("free_order", none)) d_free_order
  m_free_order : mg "free_order" = some (.ref (He.ga K "free_order"))
  b_free_order : Binds K d_free_order ["shelf", "names"] []
  d_ring_in : FuncData
  F_ring_in : FunD K "ring_in" "ring_in" (defArgs s_ring_in) (defBody s_ring_in) (defScope s_ring_in) [] [] (He.fAd K ("ring_in", none)) d_ring_in
  m_ring_in : mg "ring_in" = some (.ref (He.ga K "ring_in"))
  b_ring_in : Binds K d_ring_in ["shelf", "stuck"] []
  d_knot_in : FuncData
  F_knot_in : FunD K "knot_in" "knot_in" (defArgs s_knot_in) (defBody s_knot_in) (defScope s_knot_in) [] [] (He.fAd K ("knot_in", none)) d_knot_in
  m_knot_in : mg "knot_in" = some (.ref (He.ga K "knot_in"))
  b_knot_in : Binds K d_knot_in ["shelf", "names"] []
  d_Stand_init : FuncData
  F_Stand_init : FunD K "__init__" "Stand.__init__" (defArgs s_Stand_init) (defBody s_Stand_init) (defScope s_Stand_init) [] [("wished", V.ref (UO.kwAdr K ("Stand", some "__init__") "wished")), ("up", V.ref (UO.kwAdr K ("Stand", some "__init__") "up")), ("later", V.ref (UO.kwAdr K ("Stand", some "__init__") "later")), ("back", V.ref (UO.kwAdr K ("Stand", some "__init__") "back"))] (He.fAd K ("Stand", some "__init__")) d_Stand_init
  d_open_in : FuncData
  F_open_in : FunD K "open_in" "open_in" (defArgs s_open_in) (defBody s_open_in) (defScope s_open_in) [] [] (He.fAd K ("open_in", none)) d_open_in
  m_open_in : mg "open_in" = some (.ref (He.ga K "open_in"))
  b_open_in : Binds K d_open_in ["stand"] []
  d_wants_of : FuncData
  F_wants_of : FunD K "wants_of" "wants_of" (defArgs s_wants_of) (defBody s_wants_of) (defScope s_wants_of) [] [] (He.fAd K ("wants_of", none)) d_wants_of
  m_wants_of : mg "wants_of" = some (.ref (He.ga K "wants_of"))
  b_wants_of : Binds K d_wants_of ["shelf", "stand", "name"] []
  d_knot_comes : FuncData
  F_knot_comes : FunD K "knot_comes" "knot_comes" (defArgs s_knot_comes) (defBody s_knot_comes) (defScope s_knot_comes) [] [] (He.fAd K ("knot_comes", none)) d_knot_comes
  m_knot_comes : mg "knot_comes" = some (.ref (He.ga K "knot_comes"))
  b_knot_comes : Binds K d_knot_comes ["shelf", "stand", "come"] []
  d_words_of : FuncData
  F_words_of : FunD K "words_of" "words_of" (defArgs s_words_of) (defBody s_words_of) (defScope s_words_of) [] [] (He.fAd K ("words_of", none)) d_words_of
  m_words_of : mg "words_of" = some (.ref (He.ga K "words_of"))
  b_words_of : Binds K d_words_of ["shelf", "stand", "had", "wanted"] []
  d_Plan_init : FuncData
  F_Plan_init : FunD K "__init__" "Plan.__init__" (defArgs s_Plan_init) (defBody s_Plan_init) (defScope s_Plan_init) [V.ref (He.dflAt ("Plan", some "__init__") 0 K)] [] (He.fAd K ("Plan", some "__init__")) d_Plan_init
  b2_Plan_init : Binds K d_Plan_init ["self", "name", "way", "demands", "dropped"] []
  e1_Plan_init : ∀ H, SqT K H (He.dflAt ("Plan", some "__init__") 0 K) []
  bp_Plan_init_4 : ∃ ds, Vals [V.ref (He.dflAt ("Plan", some "__init__") 0 K)] ds ∧ Binds K d_Plan_init ["self", "name", "way", "demands", "dropped"] ds
  d_Plan_len : FuncData
  F_Plan_len : FunD K "__len__" "Plan.__len__" (defArgs s_Plan_len) (defBody s_Plan_len) (defScope s_Plan_len) [] [] (He.fAd K ("Plan", some "__len__")) d_Plan_len
  b_Plan_len : Binds K d_Plan_len ["self"] []
  me_Plan_len : Meth K (He.ga K "Plan") "__len__" (He.fAd K ("Plan", some "__len__"))
  d_behind : FuncData
  F_behind : FunD K "behind" "behind" (defArgs s_behind) (defBody s_behind) (defScope s_behind) [] [] (He.fAd K ("behind", none)) d_behind
  m_behind : mg "behind" = some (.ref (He.ga K "behind"))
  b_behind : Binds K d_behind ["stand", "plan"] []
  d_without_causes : FuncData
  F_without_causes : FunD K "without_causes" "without_causes" (defArgs s_without_causes) (defBody s_without_causes) (defScope s_without_causes) [] [] (He.fAd K ("without_causes", none)) d_without_causes
  m_without_causes : mg "without_causes" = some (.ref (He.ga K "without_causes"))
  b_without_causes : Binds K d_without_causes ["demands"] []
  d_spread : FuncData
  F_spread : FunD K "spread" "spread" (defArgs s_spread) (defBody s_spread) (defScope s_spread) [] [] (He.fAd K ("spread", none)) d_spread
  m_spread : mg "spread" = some (.ref (He.ga K "spread"))
  b_spread : Binds K d_spread ["shelf", "demands", "name", "way", "cause"] []
  d_core_on : FuncData
  F_core_on : FunD K "core_on" "core_on" (defArgs s_core_on) (defBody s_core_on) (defScope s_core_on) [] [] (He.fAd K ("core_on", none)) d_core_on
  m_core_on : mg "core_on" = some (.ref (He.ga K "core_on"))
  b_core_on : Binds K d_core_on ["shelf", "name"] []
  d_open_behind : FuncData
  F_open_behind : FunD K "open_behind" "open_behind" (defArgs s_open_behind) (defBody s_open_behind) (defScope s_open_behind) [] [] (He.fAd K ("open_behind", none)) d_open_behind
  m_open_behind : mg "open_behind" = some (.ref (He.ga K "open_behind"))
  b_open_behind : Binds K d_open_behind ["stand", "name", "demands"] []
  d_next_want : FuncData
  F_next_want : FunD K "next_want" "next_want" (defArgs s_next_want) (defBody s_next_want) (defScope s_next_want) [] [] (He.fAd K ("next_want", none)) d_next_want
  m_next_want : mg "next_want" = some (.ref (He.ga K "next_want"))
  b_next_want : Binds K d_next_want ["shelf", "stand", "demands", "looked"] []
  d_with_wants : FuncData
  F_with_wants : FunD K "with_wants" "with_wants" (defArgs s_with_wants) (defBody s_with_wants) (defScope s_with_wants) [] [] (He.fAd K ("with_wants", none)) d_with_wants
  m_with_wants : mg "with_wants" = some (.ref (He.ga K "with_wants"))
  b_with_wants : Binds K d_with_wants ["shelf", "stand", "core"] []
  d_plan_on : FuncData
  F_plan_on : FunD K "plan_on" "plan_on" (defArgs s_plan_on) (defBody s_plan_on) (defScope s_plan_on) [] [] (He.fAd K ("plan_on", none)) d_plan_on
  m_plan_on : mg "plan_on" = some (.ref (He.ga K "plan_on"))
  b_plan_on : Binds K d_plan_on ["shelf", "stand", "name"] []
  d_plan_off : FuncData
  F_plan_off : FunD K "plan_off" "plan_off" (defArgs s_plan_off) (defBody s_plan_off) (defScope s_plan_off) [] [] (He.fAd K ("plan_off", none)) d_plan_off
  m_plan_off : mg "plan_off" = some (.ref (He.ga K "plan_off"))
  b_plan_off : Binds K d_plan_off ["shelf", "stand", "name"] []
  d_Rule_init : FuncData
  F_Rule_init : FunD K "__init__" "Rule.__init__" (defArgs s_Rule_init) (defBody s_Rule_init) (defScope s_Rule_init) [] [("first", V.int 1), ("times", V.int 2), ("top", V.int 64), ("burst", V.int 5), ("span", V.int 100)] (He.fAd K ("Rule", some "__init__")) d_Rule_init
  d_Shelf_init : FuncData
  F_Shelf_init : FunD K "__init__" "Shelf.__init__" (defArgs s_Shelf_init) (defBody s_Shelf_init) (defScope s_Shelf_init) [V.ref (He.dflAt ("Shelf", some "__init__") 0 K)] [] (He.fAd K ("Shelf", some "__init__")) d_Shelf_init
  b2_Shelf_init : Binds K d_Shelf_init ["self", "units"] []
  b1_Shelf_init : ∃ ds, Vals [V.ref (He.dflAt ("Shelf", some "__init__") 0 K)] ds ∧ Binds K d_Shelf_init ["self", "units"] ds
  e1_Shelf_init : ∀ H, SqT K H (He.dflAt ("Shelf", some "__init__") 0 K) []
  d_Shelf_names : FuncData
  F_Shelf_names : FunD K "names" "Shelf.names" (defArgs s_Shelf_names) (defBody s_Shelf_names) (defScope s_Shelf_names) [] [] (He.fAd K ("Shelf", some "names")) d_Shelf_names
  b_Shelf_names : Binds K d_Shelf_names ["self"] []
  me_Shelf_names : Meth K (He.ga K "Shelf") "names" (He.fAd K ("Shelf", some "names"))
  d_Shelf_has : FuncData
  F_Shelf_has : FunD K "has" "Shelf.has" (defArgs s_Shelf_has) (defBody s_Shelf_has) (defScope s_Shelf_has) [] [] (He.fAd K ("Shelf", some "has")) d_Shelf_has
  b_Shelf_has : Binds K d_Shelf_has ["self", "name"] []
  me_Shelf_has : Meth K (He.ga K "Shelf") "has" (He.fAd K ("Shelf", some "has"))
  d_Shelf_unit : FuncData
  F_Shelf_unit : FunD K "unit" "Shelf.unit" (defArgs s_Shelf_unit) (defBody s_Shelf_unit) (defScope s_Shelf_unit) [] [] (He.fAd K ("Shelf", some "unit")) d_Shelf_unit
  b_Shelf_unit : Binds K d_Shelf_unit ["self", "name"] []
  me_Shelf_unit : Meth K (He.ga K "Shelf") "unit" (He.fAd K ("Shelf", some "unit"))
  d_Shelf_needing : FuncData
  F_Shelf_needing : FunD K "needing" "Shelf.needing" (defArgs s_Shelf_needing) (defBody s_Shelf_needing) (defScope s_Shelf_needing) [] [] (He.fAd K ("Shelf", some "needing")) d_Shelf_needing
  b_Shelf_needing : Binds K d_Shelf_needing ["self", "name"] []
  me_Shelf_needing : Meth K (He.ga K "Shelf") "needing" (He.fAd K ("Shelf", some "needing"))
  d_Shelf_barred : FuncData
  F_Shelf_barred : FunD K "barred" "Shelf.barred" (defArgs s_Shelf_barred) (defBody s_Shelf_barred) (defScope s_Shelf_barred) [] [] (He.fAd K ("Shelf", some "barred")) d_Shelf_barred
  b_Shelf_barred : Binds K d_Shelf_barred ["self", "name"] []
  me_Shelf_barred : Meth K (He.ga K "Shelf") "barred" (He.fAd K ("Shelf", some "barred"))
  d_Shelf_waited : FuncData
  F_Shelf_waited : FunD K "waited" "Shelf.waited" (defArgs s_Shelf_waited) (defBody s_Shelf_waited) (defScope s_Shelf_waited) [] [] (He.fAd K ("Shelf", some "waited")) d_Shelf_waited
  b_Shelf_waited : Binds K d_Shelf_waited ["self", "name"] []
  me_Shelf_waited : Meth K (He.ga K "Shelf") "waited" (He.fAd K ("Shelf", some "waited"))
  d_Unit_init : FuncData
  F_Unit_init : FunD K "__init__" "Unit.__init__" (defArgs s_Unit_init) (defBody s_Unit_init) (defScope s_Unit_init) [] [("kind", V.str "work"), ("needs", V.ref (UO.kwAdr K ("Unit", some "__init__") "needs")), ("wants", V.ref (UO.kwAdr K ("Unit", some "__init__") "wants")), ("bars", V.ref (UO.kwAdr K ("Unit", some "__init__") "bars")), ("after", V.ref (UO.kwAdr K ("Unit", some "__init__") "after")), ("opens", V.non), ("rule", V.non)] (He.fAd K ("Unit", some "__init__")) d_Unit_init
  d_law_bag : FuncData
  F_law_bag : FunD K "_law_bag" "_law_bag" (defArgs s_law_bag) (defBody s_law_bag) (defScope s_law_bag) [] [] (He.fAd K ("_law_bag", none)) d_law_bag
  m_law_bag : mg "_law_bag" = some (.ref (He.ga K "_law_bag"))
  b_law_bag : Binds K d_law_bag ["_law_script", "_law_at"] []
  d_law_take : FuncData
  F_law_take : FunD K "_law_take" "_law_take" (defArgs s_law_take) (defBody s_law_take) (defScope s_law_take) [] [] (He.fAd K ("_law_take", none)) d_law_take
  m_law_take : mg "_law_take" = some (.ref (He.ga K "_law_take"))
  b_law_take : Binds K d_law_take ["_law_bag_here", "_law_size"] []
  d_law_name : FuncData
  F_law_name : FunD K "_law_name" "_law_name" (defArgs s_law_name) (defBody s_law_name) (defScope s_law_name) [] [] (He.fAd K ("_law_name", none)) d_law_name
  m_law_name : mg "_law_name" = some (.ref (He.ga K "_law_name"))
  b_law_name : Binds K d_law_name ["_law_bag_here"] []
  d_law_names : FuncData
  F_law_names : FunD K "_law_names" "_law_names" (defArgs s_law_names) (defBody s_law_names) (defScope s_law_names) [] [] (He.fAd K ("_law_names", none)) d_law_names
  m_law_names : mg "_law_names" = some (.ref (He.ga K "_law_names"))
  b_law_names : Binds K d_law_names ["_law_bag_here", "_law_size"] []
  d_law_rule_parts : FuncData
  F_law_rule_parts : FunD K "_law_rule_parts" "_law_rule_parts" (defArgs s_law_rule_parts) (defBody s_law_rule_parts) (defScope s_law_rule_parts) [] [] (He.fAd K ("_law_rule_parts", none)) d_law_rule_parts
  m_law_rule_parts : mg "_law_rule_parts" = some (.ref (He.ga K "_law_rule_parts"))
  b_law_rule_parts : Binds K d_law_rule_parts ["_law_bag_here"] []
  d_law_rule : FuncData
  F_law_rule : FunD K "_law_rule" "_law_rule" (defArgs s_law_rule) (defBody s_law_rule) (defScope s_law_rule) [] [] (He.fAd K ("_law_rule", none)) d_law_rule
  m_law_rule : mg "_law_rule" = some (.ref (He.ga K "_law_rule"))
  b_law_rule : Binds K d_law_rule ["_law_five"] []
  d_law_some : FuncData
  F_law_some : FunD K "_law_some" "_law_some" (defArgs s_law_some) (defBody s_law_some) (defScope s_law_some) [] [] (He.fAd K ("_law_some", none)) d_law_some
  m_law_some : mg "_law_some" = some (.ref (He.ga K "_law_some"))
  b_law_some : Binds K d_law_some ["_law_bag_here", "_law_pool", "_law_most"] []
  d_law_facts : FuncData
  F_law_facts : FunD K "_law_facts" "_law_facts" (defArgs s_law_facts) (defBody s_law_facts) (defScope s_law_facts) [] [] (He.fAd K ("_law_facts", none)) d_law_facts
  m_law_facts : mg "_law_facts" = some (.ref (He.ga K "_law_facts"))
  b_law_facts : Binds K d_law_facts ["_law_bag_here", "_law_most"] []
  d_law_unit : FuncData
  F_law_unit : FunD K "_law_unit" "_law_unit" (defArgs s_law_unit) (defBody s_law_unit) (defScope s_law_unit) [] [] (He.fAd K ("_law_unit", none)) d_law_unit
  m_law_unit : mg "_law_unit" = some (.ref (He.ga K "_law_unit"))
  b_law_unit : Binds K d_law_unit ["_law_word", "_law_facts_here"] []
  d_law_units : FuncData
  F_law_units : FunD K "_law_units" "_law_units" (defArgs s_law_units) (defBody s_law_units) (defScope s_law_units) [] [] (He.fAd K ("_law_units", none)) d_law_units
  m_law_units : mg "_law_units" = some (.ref (He.ga K "_law_units"))
  b_law_units : Binds K d_law_units ["_law_facts_here"] []
  d_law_needing : FuncData
  F_law_needing : FunD K "_law_needing" "_law_needing" (defArgs s_law_needing) (defBody s_law_needing) (defScope s_law_needing) [] [] (He.fAd K ("_law_needing", none)) d_law_needing
  m_law_needing : mg "_law_needing" = some (.ref (He.ga K "_law_needing"))
  b_law_needing : Binds K d_law_needing ["_law_facts_here", "_law_word"] []
  d_law_barred : FuncData
  F_law_barred : FunD K "_law_barred" "_law_barred" (defArgs s_law_barred) (defBody s_law_barred) (defScope s_law_barred) [] [] (He.fAd K ("_law_barred", none)) d_law_barred
  m_law_barred : mg "_law_barred" = some (.ref (He.ga K "_law_barred"))
  b_law_barred : Binds K d_law_barred ["_law_facts_here", "_law_word"] []
  d_law_waited : FuncData
  F_law_waited : FunD K "_law_waited" "_law_waited" (defArgs s_law_waited) (defBody s_law_waited) (defScope s_law_waited) [] [] (He.fAd K ("_law_waited", none)) d_law_waited
  m_law_waited : mg "_law_waited" = some (.ref (He.ga K "_law_waited"))
  b_law_waited : Binds K d_law_waited ["_law_facts_here", "_law_word"] []
  d_law_next : FuncData
  F_law_next : FunD K "_law_next" "_law_next" (defArgs s_law_next) (defBody s_law_next) (defScope s_law_next) [] [] (He.fAd K ("_law_next", none)) d_law_next
  m_law_next : mg "_law_next" = some (.ref (He.ga K "_law_next"))
  b_law_next : Binds K d_law_next ["_law_facts_here", "_law_demand"] []
  d_law_followed : FuncData
  F_law_followed : FunD K "_law_followed" "_law_followed" (defArgs s_law_followed) (defBody s_law_followed) (defScope s_law_followed) [] [] (He.fAd K ("_law_followed", none)) d_law_followed
  m_law_followed : mg "_law_followed" = some (.ref (He.ga K "_law_followed"))
  b_law_followed : Binds K d_law_followed ["_law_facts_here", "_law_demands"] []
  d_law_lacks : FuncData
  F_law_lacks : FunD K "_law_lacks" "_law_lacks" (defArgs s_law_lacks) (defBody s_law_lacks) (defScope s_law_lacks) [] [] (He.fAd K ("_law_lacks", none)) d_law_lacks
  m_law_lacks : mg "_law_lacks" = some (.ref (He.ga K "_law_lacks"))
  b_law_lacks : Binds K d_law_lacks ["_law_facts_here", "_law_demands"] []
  d_law_clash : FuncData
  F_law_clash : FunD K "_law_clash" "_law_clash" (defArgs s_law_clash) (defBody s_law_clash) (defScope s_law_clash) [] [] (He.fAd K ("_law_clash", none)) d_law_clash
  m_law_clash : mg "_law_clash" = some (.ref (He.ga K "_law_clash"))
  b_law_clash : Binds K d_law_clash ["_law_demands"] []
  d_law_knotted : FuncData
  F_law_knotted : FunD K "_law_knotted" "_law_knotted" (defArgs s_law_knotted) (defBody s_law_knotted) (defScope s_law_knotted) [] [] (He.fAd K ("_law_knotted", none)) d_law_knotted
  m_law_knotted : mg "_law_knotted" = some (.ref (He.ga K "_law_knotted"))
  b_law_knotted : Binds K d_law_knotted ["_law_facts_here", "_law_some_here"] []
  d_law_ways : FuncData
  F_law_ways : FunD K "_law_ways" "_law_ways" (defArgs s_law_ways) (defBody s_law_ways) (defScope s_law_ways) [] [] (He.fAd K ("_law_ways", none)) d_law_ways
  m_law_ways : mg "_law_ways" = some (.ref (He.ga K "_law_ways"))
  b_law_ways : Binds K d_law_ways ["_law_demands", "_law_way"] []
  d_law_stand_drawn : FuncData
  F_law_stand_drawn : FunD K "_law_stand_drawn" "_law_stand_drawn" (defArgs s_law_stand_drawn) (defBody s_law_stand_drawn) (defScope s_law_stand_drawn) [] [] (He.fAd K ("_law_stand_drawn", none)) d_law_stand_drawn
  m_law_stand_drawn : mg "_law_stand_drawn" = some (.ref (He.ga K "_law_stand_drawn"))
  b_law_stand_drawn : Binds K d_law_stand_drawn ["_law_bag_here", "_law_facts_here"] []
  d_law_stand : FuncData
  F_law_stand : FunD K "_law_stand" "_law_stand" (defArgs s_law_stand) (defBody s_law_stand) (defScope s_law_stand) [] [] (He.fAd K ("_law_stand", none)) d_law_stand
  m_law_stand : mg "_law_stand" = some (.ref (He.ga K "_law_stand"))
  b_law_stand : Binds K d_law_stand ["_law_four"] []
  d_law_wants : FuncData
  F_law_wants : FunD K "_law_wants" "_law_wants" (defArgs s_law_wants) (defBody s_law_wants) (defScope s_law_wants) [] [] (He.fAd K ("_law_wants", none)) d_law_wants
  m_law_wants : mg "_law_wants" = some (.ref (He.ga K "_law_wants"))
  b_law_wants : Binds K d_law_wants ["_law_facts_here", "_law_four", "_law_asker"] []
  d_law_whole : FuncData
  F_law_whole : FunD K "_law_whole" "_law_whole" (defArgs s_law_whole) (defBody s_law_whole) (defScope s_law_whole) [] [] (He.fAd K ("_law_whole", none)) d_law_whole
  m_law_whole : mg "_law_whole" = some (.ref (He.ga K "_law_whole"))
  b_law_whole : Binds K d_law_whole ["_law_thing"] []
  d_law_caused : FuncData
  F_law_caused : FunD K "_law_caused" "_law_caused" (defArgs s_law_caused) (defBody s_law_caused) (defScope s_law_caused) [] [] (He.fAd K ("_law_caused", none)) d_law_caused
  m_law_caused : mg "_law_caused" = some (.ref (He.ga K "_law_caused"))
  b_law_caused : Binds K d_law_caused ["_law_facts_here", "_law_four", "_law_demands", "_law_spot"] []
  d_law_right : FuncData
  F_law_right : FunD K "_law_right" "_law_right" (defArgs s_law_right) (defBody s_law_right) (defScope s_law_right) [] [] (He.fAd K ("_law_right", none)) d_law_right
  m_law_right : mg "_law_right" = some (.ref (He.ga K "_law_right"))
  b_law_right : Binds K d_law_right ["_law_facts_here", "_law_four", "_law_told", "_law_word", "_law_way"] []
  d_law_asked : FuncData
  F_law_asked : FunD K "_law_asked" "_law_asked" (defArgs s_law_asked) (defBody s_law_asked) (defScope s_law_asked) [] [] (He.fAd K ("_law_asked", none)) d_law_asked
  m_law_asked : mg "_law_asked" = some (.ref (He.ga K "_law_asked"))
  b_law_asked : Binds K d_law_asked ["_law_facts_here", "_law_own_shelf", "_law_four", "_law_word"] []
  d_law : FuncData
  F_law : FunD K "law" "law" (defArgs s_law) (defBody s_law) (defScope s_law) [] [] (He.fAd K ("law", none)) d_law
  m_law : mg "law" = some (.ref (He.ga K "law"))
  b_law : Binds K d_law ["_law_script"] []
  m_Stand : mg "Stand" = some (.ref (He.ga K "Stand"))
  cl_Stand : Cls K (He.ga K "Stand")
  mk_Stand : Mk K (He.ga K "Stand") (He.fAd K ("Stand", some "__init__"))
  na_Stand_wished : NoAttr K (He.ga K "Stand") "wished"
  na_Stand_up : NoAttr K (He.ga K "Stand") "up"
  na_Stand_later : NoAttr K (He.ga K "Stand") "later"
  na_Stand_back : NoAttr K (He.ga K "Stand") "back"
  m_Plan : mg "Plan" = some (.ref (He.ga K "Plan"))
  cl_Plan : Cls K (He.ga K "Plan")
  mk_Plan : Mk K (He.ga K "Plan") (He.fAd K ("Plan", some "__init__"))
  na_Plan_name : NoAttr K (He.ga K "Plan") "name"
  na_Plan_way : NoAttr K (He.ga K "Plan") "way"
  na_Plan_demands : NoAttr K (He.ga K "Plan") "demands"
  na_Plan_dropped : NoAttr K (He.ga K "Plan") "dropped"
  m_Rule : mg "Rule" = some (.ref (He.ga K "Rule"))
  cl_Rule : Cls K (He.ga K "Rule")
  mk_Rule : Mk K (He.ga K "Rule") (He.fAd K ("Rule", some "__init__"))
  na_Rule_first : NoAttr K (He.ga K "Rule") "first"
  na_Rule_times : NoAttr K (He.ga K "Rule") "times"
  na_Rule_top : NoAttr K (He.ga K "Rule") "top"
  na_Rule_burst : NoAttr K (He.ga K "Rule") "burst"
  na_Rule_span : NoAttr K (He.ga K "Rule") "span"
  m_Shelf : mg "Shelf" = some (.ref (He.ga K "Shelf"))
  cl_Shelf : Cls K (He.ga K "Shelf")
  mk_Shelf : Mk K (He.ga K "Shelf") (He.fAd K ("Shelf", some "__init__"))
  na_Shelf_by_name : NoAttr K (He.ga K "Shelf") "by_name"
  m_Unit : mg "Unit" = some (.ref (He.ga K "Unit"))
  cl_Unit : Cls K (He.ga K "Unit")
  mk_Unit : Mk K (He.ga K "Unit") (He.fAd K ("Unit", some "__init__"))
  na_Unit_name : NoAttr K (He.ga K "Unit") "name"
  na_Unit_kind : NoAttr K (He.ga K "Unit") "kind"
  na_Unit_needs : NoAttr K (He.ga K "Unit") "needs"
  na_Unit_wants : NoAttr K (He.ga K "Unit") "wants"
  na_Unit_bars : NoAttr K (He.ga K "Unit") "bars"
  na_Unit_after : NoAttr K (He.ga K "Unit") "after"
  na_Unit_opens : NoAttr K (He.ga K "Unit") "opens"
  na_Unit_rule : NoAttr K (He.ga K "Unit") "rule"
  m_Lack : mg "Lack" = some (.ref (He.ga K "Lack"))
  ox_Lack : UX.OwnY K (He.ga K "Lack") (He.fAd K ("Lack", some "__init__")) "ValueError" "ValueError.__new__" "ValueError.__init__" UX.veTail
  ax_Lack : UX.Asks K (He.ga K "Lack")
  oa_Lack_missing : PySem.W.findIn K (.ref (He.ga K "Lack")) "missing" = some none
  oa_Lack_chain : PySem.W.findIn K (.ref (He.ga K "Lack")) "chain" = some none
  kx_Lack_Lack : PySem.W.kitOne K (.ref (He.ga K "Lack")) (.ref (He.ga K "Lack")) = some true
  kx_Lack_Clash : PySem.W.kitOne K (.ref (He.ga K "Lack")) (.ref (He.ga K "Clash")) = some false
  kx_Lack_Knot : PySem.W.kitOne K (.ref (He.ga K "Lack")) (.ref (He.ga K "Knot")) = some false
  kx_Lack_NoUnit : PySem.W.kitOne K (.ref (He.ga K "Lack")) (.ref (He.ga K "NoUnit")) = some false
  kx_Lack_NoShelf : PySem.W.kitOne K (.ref (He.ga K "Lack")) (.ref (He.ga K "NoShelf")) = some false
  kx_Lack_UnitError : PySem.W.kitOne K (.ref (He.ga K "Lack")) (.ref (He.ga K "UnitError")) = some true
  kx_Lack_ValueError : PySem.W.kitOne K (.ref (He.ga K "Lack")) (.type "ValueError") = some true
  m_Clash : mg "Clash" = some (.ref (He.ga K "Clash"))
  ox_Clash : UX.OwnY K (He.ga K "Clash") (He.fAd K ("Clash", some "__init__")) "ValueError" "ValueError.__new__" "ValueError.__init__" UX.veTail
  ax_Clash : UX.Asks K (He.ga K "Clash")
  oa_Clash_name : PySem.W.findIn K (.ref (He.ga K "Clash")) "name" = some none
  kx_Clash_Lack : PySem.W.kitOne K (.ref (He.ga K "Clash")) (.ref (He.ga K "Lack")) = some false
  kx_Clash_Clash : PySem.W.kitOne K (.ref (He.ga K "Clash")) (.ref (He.ga K "Clash")) = some true
  kx_Clash_Knot : PySem.W.kitOne K (.ref (He.ga K "Clash")) (.ref (He.ga K "Knot")) = some false
  kx_Clash_NoUnit : PySem.W.kitOne K (.ref (He.ga K "Clash")) (.ref (He.ga K "NoUnit")) = some false
  kx_Clash_NoShelf : PySem.W.kitOne K (.ref (He.ga K "Clash")) (.ref (He.ga K "NoShelf")) = some false
  kx_Clash_UnitError : PySem.W.kitOne K (.ref (He.ga K "Clash")) (.ref (He.ga K "UnitError")) = some true
  kx_Clash_ValueError : PySem.W.kitOne K (.ref (He.ga K "Clash")) (.type "ValueError") = some true
  m_Knot : mg "Knot" = some (.ref (He.ga K "Knot"))
  ox_Knot : UX.OwnY K (He.ga K "Knot") (He.fAd K ("Knot", some "__init__")) "ValueError" "ValueError.__new__" "ValueError.__init__" UX.veTail
  ax_Knot : UX.Asks K (He.ga K "Knot")
  oa_Knot_ring : PySem.W.findIn K (.ref (He.ga K "Knot")) "ring" = some none
  kx_Knot_Lack : PySem.W.kitOne K (.ref (He.ga K "Knot")) (.ref (He.ga K "Lack")) = some false
  kx_Knot_Clash : PySem.W.kitOne K (.ref (He.ga K "Knot")) (.ref (He.ga K "Clash")) = some false
  kx_Knot_Knot : PySem.W.kitOne K (.ref (He.ga K "Knot")) (.ref (He.ga K "Knot")) = some true
  kx_Knot_NoUnit : PySem.W.kitOne K (.ref (He.ga K "Knot")) (.ref (He.ga K "NoUnit")) = some false
  kx_Knot_NoShelf : PySem.W.kitOne K (.ref (He.ga K "Knot")) (.ref (He.ga K "NoShelf")) = some false
  kx_Knot_UnitError : PySem.W.kitOne K (.ref (He.ga K "Knot")) (.ref (He.ga K "UnitError")) = some true
  kx_Knot_ValueError : PySem.W.kitOne K (.ref (He.ga K "Knot")) (.type "ValueError") = some true
  vi_ValueError : PySem.W.findCls K (.type "ValueError") (.type "type") "__init__" = some (.val (.builtin "ValueError.__init__"))
  bi_UnitError : UX.BaseY K (He.ga K "UnitError") "ValueError.__init__"
  em_Lack_Lack : PySem.W.exmOne K (.ref (He.ga K "Lack")) (.ref (He.ga K "Lack")) = some true
  em_Lack_UnitError : PySem.W.exmOne K (.ref (He.ga K "Lack")) (.ref (He.ga K "UnitError")) = some true
  em_Clash_UnitError : PySem.W.exmOne K (.ref (He.ga K "Clash")) (.ref (He.ga K "UnitError")) = some true
  em_Knot_UnitError : PySem.W.exmOne K (.ref (He.ga K "Knot")) (.ref (He.ga K "UnitError")) = some true
  m_NoUnit : mg "NoUnit" = some (.ref (He.ga K "NoUnit"))
  m_NoShelf : mg "NoShelf" = some (.ref (He.ga K "NoShelf"))
  m_UnitError : mg "UnitError" = some (.ref (He.ga K "UnitError"))
  e0_Stand_init_wished : ∀ H, SqT K H (UO.kwAdr K ("Stand", some "__init__") "wished") []
  e0_Stand_init_up : ∀ H, SqT K H (UO.kwAdr K ("Stand", some "__init__") "up") []
  e0_Stand_init_later : ∀ H, SqT K H (UO.kwAdr K ("Stand", some "__init__") "later") []
  e0_Stand_init_back : ∀ H, SqT K H (UO.kwAdr K ("Stand", some "__init__") "back") []
  e0_Unit_init_needs : ∀ H, SqT K H (UO.kwAdr K ("Unit", some "__init__") "needs") []
  e0_Unit_init_wants : ∀ H, SqT K H (UO.kwAdr K ("Unit", some "__init__") "wants") []
  e0_Unit_init_bars : ∀ H, SqT K H (UO.kwAdr K ("Unit", some "__init__") "bars") []
  e0_Unit_init_after : ∀ H, SqT K H (UO.kwAdr K ("Unit", some "__init__") "after") []
  ix_Unit : UO.InsX K (He.ga K "Unit")
  ix_Rule : UO.InsX K (He.ga K "Rule")
  ix_Stand : UO.InsX K (He.ga K "Stand")
  px_Unit_Rule : UO.PairX K (He.ga K "Unit") (He.ga K "Rule")
  px_Unit_Stand : UO.PairX K (He.ga K "Unit") (He.ga K "Stand")
  px_Rule_Unit : UO.PairX K (He.ga K "Rule") (He.ga K "Unit")
  px_Rule_Stand : UO.PairX K (He.ga K "Rule") (He.ga K "Stand")
  px_Stand_Unit : UO.PairX K (He.ga K "Stand") (He.ga K "Unit")
  px_Stand_Rule : UO.PairX K (He.ga K "Stand") (He.ga K "Rule")
  c_MOST : ∃ t, mg "MOST" = some (.int 16 t)
  n_list : mg "list" = none
  n_sorted : mg "sorted" = none
  n_len : mg "len" = none
  n_min : mg "min" = none
  n_all : mg "all" = none
  n_any : mg "any" = none
  n_tuple : mg "tuple" = none
  n_set : mg "set" = none
  n_isinstance : mg "isinstance" = none
  n_str : mg "str" = none
  n_abs : mg "abs" = none
  n_int : mg "int" = none
  n_range : mg "range" = none
  n_bool : mg "bool" = none
  n_max : mg "max" = none
  kb_Stand_init_1_wished_up_later_back : ∃ gg, KBn K d_Stand_init ["self", "wished", "up", "later", "back"] 1 ["wished", "up", "later", "back"] gg (fun us ws => us ++ (ws.drop 0).take 1 ++ (ws.drop 1).take 1 ++ (ws.drop 2).take 1 ++ (ws.drop 3).take 1)
  kb_Rule_init_1_first_times_top_burst_span : ∃ gg, KBn K d_Rule_init ["self", "first", "times", "top", "burst", "span"] 1 ["first", "times", "top", "burst", "span"] gg (fun us ws => us ++ (ws.drop 0).take 1 ++ (ws.drop 1).take 1 ++ (ws.drop 2).take 1 ++ (ws.drop 3).take 1 ++ (ws.drop 4).take 1)
  kb_Unit_init_2_kind_needs_wants_bars_after_opens_rule : ∃ gg, KBn K d_Unit_init ["self", "name", "kind", "needs", "wants", "bars", "after", "opens", "rule"] 2 ["kind", "needs", "wants", "bars", "after", "opens", "rule"] gg (fun us ws => us ++ (ws.drop 0).take 1 ++ (ws.drop 1).take 1 ++ (ws.drop 2).take 1 ++ (ws.drop 3).take 1 ++ (ws.drop 4).take 1 ++ (ws.drop 5).take 1 ++ (ws.drop 6).take 1)
  kb_plan_on_0_stand_name_shelf : ∃ gg, KBn K d_plan_on ["shelf", "stand", "name"] 0 ["stand", "name", "shelf"] gg (fun us ws => us ++ (ws.drop 2).take 1 ++ (ws.drop 0).take 1 ++ (ws.drop 1).take 1)
section
variable {P : Program} {w : World} {K : PySem.W.Frag} {mg : Str → Option Value} {base : Heap}
/-! ### the bag and a draw -/
def sp_law_bag (K : PySem.W.Frag) : Sp := fun vs H Q _ => ∃ (a : Addr) (ns : List Int) (k : Nat), vs = [.ref a, .int k] ∧ SqL K H a (ns.map V.int) ∧ k ≤ 1000 ∧
  ∀ p H', H p = none → Same H H' → Bag 0 H' p → Q (.ref p) H'
theorem ok_law_bag (T : Txt K mg) : FnOk P w K mg base CX0 1 (He.fAd K ("_law_bag", none)) T.d_law_bag ["_law_script", "_law_at"] (sp_law_bag K) := by
  refine T.F_law_bag.ok sc_law_bag (fun vs H Q E h => ?_) (fun cdv A outer s H vs Q E hr h => ?_)
  · obtain ⟨a, ns, k, rfl, _⟩ := h
    rfl
  · obtain ⟨a, ns, k, rfl, hS, hk, q⟩ := h
    refine ⟨_, PSs.nox (pss_cons (ps_set (i := 2) sc_law_bag.nd rfl (Or.inl rfl) (pe_op op_add (pe_op op_add (pe_op op_mul (pe_op op_mul pe_int (pv 1)) (pv 1)) (pe_op op_mul pe_int (pv 1))) pe_int))
      (pss_mid (ps_if (pt_cmpR op_lt (pv 1) (pe_callB (id := "len")  call_len_seq (by rfl) T.n_len (by decide +kernel) (pa_cons (pv 0) pa_nil)) (nomark _))
      (pss_one (ps_set (i := 2) sc_law_bag.nd rfl (Or.inl rfl) (pe_ix ix_list (pv 0) (pv 1) (fun _ _ => rfl))))
      pss_nil)
      (pss_cons (ps_set (i := 3) sc_law_bag.nd rfl (Or.inl rfl) (pe_callB (id := "abs")  call_abs (by rfl) T.n_abs (by decide +kernel) (pa_cons (pv 2) pa_nil)))
      (pss_one (ps_ret (pe_lst (pa_cons (pe_op op_mul (pv 3) (pe_callTy (T := "int")  call_int1 (by rfl) T.n_int (by decide +kernel) (pa_cons (pe_cmpR op_ge (pv 3) (pe_op op_powL pe_int pe_int) (nomark _)) pa_nil))) (pa_cons (pe_op op_add (pe_op op_mod (pv 2) (pe_op op_add (pe_op op_powL pe_int pe_int) pe_int)) (pe_op op_mul pe_int (pv 1))) (pa_cons pe_int pa_nil))))))))), ?_⟩
    have hk2 : (k : Int) ≤ 1000 := by omega
    have hk0 : (0 : Int) ≤ k := Int.natCast_nonneg _
    -- cell = 7919 * at * at + 104729 * at + 11
    refine ⟨_, rfl, _, _, rfl, rfl, .inl ⟨by decide, by decide⟩, _, rfl, _, _, rfl, rfl, .inr ⟨by omega, by omega⟩, _, rfl, _, _, rfl, rfl, .inl ⟨by decide, by decide⟩, _, _, rfl, rfl, _, _, rfl, rfl, ?_⟩
    -- if at < len(script)
    refine ⟨fun σ H' => H' = H ∧ ∃ c : Int, σ = [some (.ref a), some (.int k), some (.int c), none], ?_, ?_⟩
    · refine ⟨_, rfl, _, rfl, a, _, rfl, .inl hS, _, _, rfl, rfl, _, rfl, ?_⟩
      refine ite2 (fun hc => ?_) (fun hc => ?_)
      · have hlt : k < ns.length := by
          have := of_decide_eq_true hc
          rw [List.length_map] at this
          omega
        exact ⟨_, rfl, _, rfl, a, _, _, .int ns[k], rfl, rfl, hS, atI_nat (by rw [List.getElem?_map, List.getElem?_eq_getElem hlt]; rfl), rfl, _, rfl⟩
      · exact ⟨rfl, _, rfl⟩
    · rintro σ H' ⟨rfl, c, rfl⟩
      -- far = abs(cell); return [far * int(far >= 10 ** 18), cell % (10 ** 18 + 9) + 1299709 * at, 0]
      refine ⟨_, rfl, _, rfl, ?_⟩
      refine ⟨_, rfl, _, rfl, _, _, rfl, rfl, pow10, _, _, rfl, rfl, .inr ⟨_, rfl, _, _, rfl, rfl, cmul_b, ?_⟩⟩
      refine ⟨_, rfl, _, _, rfl, rfl, pow10, _, _, rfl, rfl, _, _, rfl, rfl, (by show (0 : Int) < 10 ^ (18 : Int).toNat + 9; decide), _, rfl, _, _, rfl, rfl, .inl ⟨by decide, by decide⟩, _, _, rfl, rfl, (by show 3 ≤ sizeLine; decide), fun p hp => ?_⟩
      exact q p _ hp (same_upd hp) (bag_made hk0 hk2)
abbrev sp_law_take (K : PySem.W.Frag) : Sp := spTake
theorem ok_law_take (T : Txt K mg) : FnOk P w K mg base CX0 1 (He.fAd K ("_law_take", none)) T.d_law_take ["_law_bag_here", "_law_size"] (sp_law_take K) := by
  refine T.F_law_take.ok sc_law_take (fun vs H Q E h => ?_) (fun cdv A outer s H vs Q E hr h => ?_)
  · obtain ⟨p, z, n, rfl, _⟩ := take_un h
    rfl
  · obtain ⟨p, z, n, rfl, hB, hz0, hz1, hn, q⟩ := take_un h
    refine ⟨_, PSs.nox (pss_cons (ps_if (pt_cmpR op_gt (pe_ix ix_list (pv 0) pe_int (fun _ _ => rfl)) pe_int (nomark _))
      (pss_cons (ps_set (i := 2) sc_law_take.nd rfl (Or.inl rfl) (pe_op op_mod (pe_ix ix_list (pv 0) pe_int (fun _ _ => rfl)) (pv 1)))
      (pss_cons (ps_asg (pe_op op_fdiv (pe_ix ix_list (pv 0) pe_int (fun _ _ => rfl)) (pv 1)) (pg_sub (pv 0) pe_int set_list))
      (pss_one (ps_ret (pv 2)))))
      pss_nil)
      (pss_cons (ps_set (i := 3) sc_law_take.nd rfl (Or.inl rfl) (pe_tup (pa_cons pe_int (pa_cons pe_int (pa_cons pe_int (pa_cons pe_int (pa_cons pe_int (pa_cons pe_int (pa_cons pe_int (pa_cons pe_int pa_nil))))))))))
      (pss_cons (ps_asg (pe_op op_add (pe_ix ix_list (pv 0) pe_int (fun _ _ => rfl)) pe_int) (pg_sub (pv 0) pe_int set_list))
      (pss_cons (ps_set (i := 4) sc_law_take.nd rfl (Or.inl rfl) (pe_ix ix_list (pv 0) pe_int (fun _ _ => rfl)))
      (pss_cons (ps_set (i := 5) sc_law_take.nd rfl (Or.inl rfl) (pe_op op_add (pe_op op_add (pe_op op_mul (pe_ix ix_list (pv 0) pe_int (fun _ _ => rfl)) (pe_op op_add (pe_op op_mul pe_int (pv 4)) pe_int)) (pe_op op_mul (pe_op op_mul pe_int (pv 4)) (pv 4))) pe_int))
      (pss_cons (ps_set (i := 6) sc_law_take.nd rfl (Or.inl rfl) (pe_op op_mod (pe_op op_powL (pv 5) pe_int) (pe_ix ix_tup (pv 3) (pe_op op_mod (pv 4) pe_int) (fun _ _ => rfl))))
      (pss_one (ps_ret (pe_op op_mod (pe_op op_fdiv (pe_op op_mod (pe_op op_mul (pv 6) (pe_op op_add (pe_op op_fdiv (pv 6) pe_int) pe_int)) (pe_ix ix_tup (pv 3) (pe_op op_mod (pe_op op_add (pv 4) pe_int) pe_int) (fun _ _ => rfl))) pe_int) (pv 1)))))))))), ?_⟩
    obtain ⟨a, b, c, hp, ha, hb, hb1, hc, hc1⟩ := hB.ex
    -- if bag[0] > 0
    refine ⟨_, rfl, p, _, _, _, rfl, rfl, SqL.of hp, at0, _, _, rfl, rfl, _, rfl, ?_⟩
    refine ite2 (fun _ => ?_) (fun _ => ?_)
    · -- digit = bag[0] % size
      refine ⟨_, rfl, p, _, _, _, rfl, rfl, SqL.of hp, at0, _, rfl, _, _, rfl, rfl, hz0, ?_⟩
      -- bag[0] = bag[0] // size
      refine ⟨_, rfl, p, _, _, _, rfl, rfl, SqL.of hp, at0, _, rfl, _, _, rfl, rfl, ⟨hz0, hz1⟩, _, rfl, p, _, _, 0, rfl, rfl, hp, rfl, ?_⟩
      refine ⟨_, rfl, ?_⟩
      refine q (a % z) _ (Int.emod_nonneg _ (by omega)) (Int.emod_lt_of_pos _ hz0) ⟨_, _, _, upd_same, Int.ediv_nonneg ha (by omega), hb, hb1, hc, by omega⟩ (mut_keep rfl)
    · -- primes
      refine ⟨by show 8 ≤ sizeLine; decide, fun t ht => ?_⟩
      generalize hE : upd H t _ = H1
      have k1 := new_at hE
      have s1 := new_same hE ht
      have hp1 := s1 _ _ hp
      have npt : p ≠ t := ne_some hp ht
      -- bag[2] = bag[2] + 1
      refine ⟨_, rfl, p, _, _, _, rfl, rfl, SqL.of hp1, at2, _, _, rfl, rfl, _, rfl, p, _, _, 2, rfl, rfl, hp1, rfl, ?_⟩
      generalize hE2 : upd H1 p _ = H2
      have hp2 : H2 p = some (.lst [.int a, .int b, .int (c + 1)]) := new_at hE2
      have kp2 := mut_keep hE2
      have k2 := kp2 _ _ k1 npt.symm
      have bag2 : Bag (n + 1) H2 p := ⟨_, _, _, hp2, ha, hb, hb1, by omega, by omega⟩
      have kpA : Kp p H H2 := (Kp.of s1).trans kp2
      -- stage, basis
      refine ⟨_, rfl, p, _, _, _, rfl, rfl, SqL.of hp2, at2, ?_⟩
      refine ⟨_, rfl, p, _, _, _, rfl, rfl, SqL.of hp2, at1, _, rfl, _, _, rfl, rfl, .inl ⟨by decide, by decide⟩, _, _, rfl, rfl, _, _, rfl, rfl, .inl ⟨by omega, by omega⟩, _, rfl, _, _, rfl, rfl, .inl ⟨by decide, by decide⟩, _, rfl, _, _, rfl, rfl, .inr ⟨by omega, by omega⟩, _, _, rfl, rfl, _, _, rfl, rfl, ?_⟩
      -- found = basis ** 3 % primes[stage % 8]
      obtain ⟨p1, e1, g1, l1⟩ := prime_at (c + 1)
      refine ⟨_, rfl, _, _, rfl, rfl, ⟨by decide, by decide, basis_small hb hb1 (by omega) (by omega)⟩, _, rfl, _, rfl, _, _, rfl, rfl, (by show (0 : Int) < 8; decide), t, _, _, _, rfl, rfl, SqT.of k2, e1, _, _, rfl, rfl, g1, ?_⟩
      generalize hf : (b * (2 * (c + 1) + 1) + 7919 * (c + 1) * (c + 1) + 29) ^ (3 : Int).toNat % p1 = f
      have f0 : 0 ≤ f := by rw [← hf]; exact Int.emod_nonneg _ (by have : 0 < p1 := g1; omega)
      have f1 : f < 2147483648 := by
        have h1 := Int.emod_lt_of_pos ((b * (2 * (c + 1) + 1) + 7919 * (c + 1) * (c + 1) + 29) ^ (3 : Int).toNat) (show 0 < p1 from g1)
        rw [hf] at h1
        omega
      obtain ⟨p2, e2, g2, l2⟩ := prime_at (c + 1 + 5)
      refine ⟨_, rfl, _, rfl, _, _, rfl, rfl, ⟨by decide, by decide⟩, _, _, rfl, rfl, _, _, rfl, rfl, .inl ⟨by omega, by omega⟩, _, rfl, _, rfl, _, _, rfl, rfl, _, _, rfl, rfl, (by show (0 : Int) < 8; decide), t, _, _, _, rfl, rfl, SqT.of k2, e2, _, _, rfl, rfl, g2, _, _, rfl, rfl, ⟨by decide, by decide⟩, _, rfl, _, _, rfl, rfl, hz0, ?_⟩
      exact q _ _ (Int.emod_nonneg _ (by omega)) (Int.emod_lt_of_pos _ hz0) bag2 kpA

-- SPLIT
/-! ### names drawn -/
def sp_law_name (K : PySem.W.Frag) : Sp := fun vs H Q _ => ∃ (p : Addr) (n : Nat), vs = [.ref p] ∧ Bag n H p ∧ n < 800000000 ∧
  ∀ (x : Str) H', Nm x → Bag (n + 10) H' p → Kp p H H' → Q (.str x) H'
theorem ok_law_name (T : Txt K mg) : FnOk P w K mg base CX0 2 (He.fAd K ("_law_name", none)) T.d_law_name ["_law_bag_here"] (sp_law_name K) := by
  refine T.F_law_name.ok sc_law_name (fun vs H Q E h => ?_) (fun cdv A outer s H vs Q E hr h => ?_)
  · obtain ⟨p, n, rfl, _⟩ := h
    rfl
  · obtain ⟨p, n, rfl, B, hn, q⟩ := h
    refine ⟨_, PSs.nox (pss_cons (ps_set (i := 1) sc_law_name.nd rfl (Or.inr rfl) pe_str)
      (pss_cons (ps_set (i := 2) sc_law_name.nd rfl (Or.inl rfl) (pe_op op_add pe_int (pe_call (ok_law_take T) (hr.mono (by decide)) (by rfl) T.m_law_take T.F_law_take.kp T.b_law_take .nil pass0 (pa_cons (pv 0) (pa_cons (pe_ix ix_list (pe_lst (pa_cons pe_int (pa_cons pe_int pa_nil))) (pe_callTy (T := "int")  call_int1 (by rfl) T.n_int (by decide +kernel) (pa_cons (pe_cmpR op_eq (pe_call (ok_law_take T) (hr.mono (by decide)) (by rfl) T.m_law_take T.F_law_take.kp T.b_law_take .nil pass0 (pa_cons (pv 0) (pa_cons pe_int pa_nil))) pe_int (nomark _)) pa_nil)) (fun _ _ => rfl)) pa_nil)))))
      (pss_one (ps_ret (pe_join pe_str (pe_lc (own := [("_law_spot", 3)]) (by rfl) sc_law_name.nd (pi_range1 (by rfl) T.n_range (pa_cons (pv 2) pa_nil)) (blkOk_by (own := [("_law_spot", 3)]) (N := N_law_name) (sc := defScope s_law_name) (by decide +kernel)) (fun _ _ _ _ _ => (pg_name (i := 3) sc_law_name.nd rfl (Or.inl rfl))) (fun _ _ _ _ _ => pts_nil) (fun _ _ _ _ _ => (pe_ix ix_str (pv 1) (pe_call (ok_law_take T) (hr.mono (by decide)) (by rfl) T.m_law_take T.F_law_take.kp T.b_law_take .nil pass0 (pa_cons (pv 0) (pa_cons pe_int pa_nil))) (fun _ _ => rfl))))))))), ?_⟩
    -- size = 1 + take(bag, [2, 8][int(take(bag, 4) == 0)])
    refine ⟨_, rfl, by show 2 ≤ sizeLine; decide, fun l1 n1 => ?_⟩
    generalize hE1 : upd H l1 _ = H1
    have w1 := new_at hE1
    have s1 := new_same hE1 n1
    have np1 := B.ne n1
    refine ⟨_, rfl, ?_⟩
    refine take_of (z := 4) (B.same s1) (by decide) (by decide) (by omega) fun r2 H2 a2 b2 B2 k2 => ?_
    have ix : ∃ m : Int, 2 ≤ m ∧ m ≤ 8 ∧ atI [V.int 2, V.int 8] (if decide (V.int r2 = V.int 0) = true then 1 else 0) = some (.int m) := by
      cases decide (V.int r2 = V.int 0)
      · exact ⟨2, by decide, by decide, at0⟩
      · exact ⟨8, by decide, by decide, at1⟩
    obtain ⟨m, m0, m1, em⟩ := ix
    refine ⟨rfl, .inr ⟨_, rfl, l1, _, _, _, rfl, rfl, SqL.of (k2 _ _ w1 np1.symm), em, ?_⟩⟩
    refine take_of (z := m) B2 (by omega) (by omega) (by omega) fun r3 H3 a3 b3 B3 k3 => ?_
    have kA : Kp p H H3 := ((Kp.of s1).trans k2).trans k3
    refine ⟨_, _, rfl, rfl, ?_⟩
    -- "".join([..])
    refine ⟨⟨_, rfl⟩, _, rfl, _, rfl, by omega, by omega, fun D nD => ?_⟩
    have npD := B3.ne nD
    refine lc_range (lo := 0) (n := (1 + r3).toNat) (fun i H' => Bag (n + 2 + i) H' p ∧ Kp p H H' ∧ ∃ ys : List Str, ys.length = i ∧ (∀ y ∈ ys, ∃ c, y = ⟨#[c]⟩ ∧ 97 ≤ c ∧ c ≤ 122) ∧ H' D = some (.lst (ys.map V.str)))
      ⟨B3.same (same_upd nD), kA.same (same_upd nD), [], rfl, (fun y hy => nomatch hy), upd_same⟩ ?_ ?_
    · rintro i H4 hi ⟨B4, k4, ys, hl, hy, w4⟩
      refine ⟨rfl, yes_of (iteT ?_)⟩
      refine ⟨_, rfl, _, rfl, ?_⟩
      refine take_of (z := 26) B4 (by decide) (by decide) (by omega) fun r5 H5 a5 b5 B5 k5 => ?_
      obtain ⟨c, ec, c0, c1⟩ := letter_at a5 b5
      have w5 := k5 _ _ w4 npD.symm
      refine ⟨_, _, c, rfl, rfl, by decide +kernel, ec, _, w5, by rw [List.length_map]; exact small1000 (by omega), ?_⟩
      have nDH : H D = none := kA.free nD npD.symm
      refine ⟨B5.keep (mut_keep rfl) npD, (k4.trans k5).own (mut_keep rfl) nDH, ys ++ [⟨#[c]⟩], by rw [List.length_append, hl]; rfl, fun y hyy => ?_, by rw [upd_same, List.map_append]; rfl⟩
      rcases List.mem_append.mp hyy with hyy | hyy
      · exact hy y hyy
      · rw [List.mem_singleton.mp hyy]
        exact ⟨c, rfl, c0, c1⟩
    · rintro H4 ⟨B4, k4, ys, hl, hy, w4⟩
      have hsum : (ys.map (·.length)).sum ≤ 8 := by
        have : ∀ ys : List Str, (∀ y ∈ ys, ∃ c, y = ⟨#[c]⟩ ∧ 97 ≤ c ∧ c ≤ 122) → (ys.map (·.length)).sum = ys.length := by
          intro ys
          induction ys with
          | nil => exact fun _ => rfl
          | cons y ys ih =>
            intro h
            obtain ⟨c, rfl, _⟩ := h y (List.mem_cons_self ..)
            rw [List.map_cons, List.sum_cons, ih fun z hz => h z (List.mem_cons_of_mem _ hz), List.length_cons]
            show 1 + ys.length = ys.length + 1
            omega
        rw [this ys hy]
        omega
      refine ⟨_, D, ys, rfl, rfl, .inl (SqL.of w4), by rw [show (Str.ofString "").length = 0 from by decide +kernel]; omega, ?_⟩
      exact q _ H4 (join_one hy (by omega) (by omega)) (B4.le (by omega)) k4
def sp_law_names (K : PySem.W.Frag) : Sp := fun vs H Q _ => ∃ (p : Addr) (k n : Nat), vs = [.ref p, .int k] ∧ Bag n H p ∧ n < 700000000 ∧ k ≤ 20 ∧
  ∀ (xs : List Str) (l : Addr) H', xs.length = k → xs.Nodup → (∀ x ∈ xs, Nm x) → H l = none → H' l = some (.lst (xs.map V.str)) → Bag (n + 10 * k) H' p → Kp p H H' → Q (.ref l) H'
theorem ok_law_names (T : Txt K mg) : FnOk P w K mg base CX0 3 (He.fAd K ("_law_names", none)) T.d_law_names ["_law_bag_here", "_law_size"] (sp_law_names K) := by
  refine T.F_law_names.ok sc_law_names (fun vs H Q E h => ?_) (fun cdv A outer s H vs Q E hr h => ?_)
  · obtain ⟨p, k, n, rfl, _⟩ := h
    rfl
  · obtain ⟨p, k, n, rfl, B, hn, hk, q⟩ := h
    refine ⟨_, PSs.nox (pss_cons (ps_set (i := 2) sc_law_names.nd rfl (Or.inr rfl) (pe_lst pa_nil))
      (pss_cons (ps_for PassesOwn.never rfl (pi_range1 (by rfl) T.n_range (pa_cons (pv 1) pa_nil)) (pg_name (i := 3) sc_law_names.nd rfl (Or.inl rfl))
      (pss_cons (ps_set (i := 4) sc_law_names.nd rfl (Or.inr rfl) (pe_call (ok_law_name T) (hr.mono (by decide)) (by rfl) T.m_law_name T.F_law_name.kp T.b_law_name .nil pass0 (pa_cons (pv 0) pa_nil)))
      (pss_mid (ps_if (pt_cmpR op_in_seq (pv 4) (pv 2) (by rfl))
      (pss_one (ps_set (i := 4) sc_law_names.nd rfl (Or.inr rfl) (pe_ix ix_list (pe_lc (own := [("_law_one", 5)]) (by rfl) sc_law_names.nd (pi_str pe_str) (blkOk_by (own := [("_law_one", 5)]) (N := N_law_names) (sc := defScope s_law_names) (by decide +kernel)) (fun _ _ _ _ _ => (pg_name (i := 5) sc_law_names.nd rfl (Or.inl rfl))) (fun _ _ _ _ _ => (pts_one (pt_cmpR (r := rIn K true) op_notIn_seq (pe_op op_add_str (pv 5) (pe_slice sl_str (pv 4) (po_some pe_int) po_none)) (pv 2) (by rfl)))) (fun _ _ _ _ _ => (pe_op op_add_str (pv 5) (pe_slice sl_str (pv 4) (po_some pe_int) po_none)))) pe_int (fun _ _ => rfl))))
      pss_nil)
      (pss_one (ps_expr (pe_bm PySem.F.plainAttrs_list PySem.F.slot_list_append PySem.F.type_list_append mt_append (pv 2) (pa_cons (pv 4) pa_nil)))))))
      (pss_one (ps_ret (pv 2))))), ?_⟩
    refine ⟨by show 0 ≤ sizeLine; decide, fun l nl => ?_⟩
    generalize hE1 : upd H l _ = H1
    have w1 := new_at hE1
    have s1 := new_same hE1 nl
    have npl := B.ne nl
    refine ⟨_, rfl, _, rfl, by omega, by omega, for_range (lo := 0) (n := (k : Int).toNat) (fun i σ H' => Bag (n + 10 * i) H' p ∧ Kp p H H' ∧ ∃ (xs : List Str) (y1 y2 y3 : Option V), xs.length = i ∧ xs.Nodup ∧ (∀ x ∈ xs, Nm x) ∧ H' l = some (.lst (xs.map V.str)) ∧ σ = [some (.ref p), some (.int k), some (.ref l), y1, y2, y3])
      ⟨B.same s1, Kp.of s1, [], none, none, none, rfl, List.nodup_nil, (fun x hx => nomatch hx), w1, rfl⟩ ?_ ?_⟩
    · rintro i σ H2 hi ⟨B2, k2, xs, y1, y2, y3, hl, hnd, hnm, w2, rfl⟩
      -- word = name(bag)
      refine ⟨_, rfl, p, n + 10 * i, rfl, B2, by omega, fun w H3 hw B3 k3 => ?_⟩
      have w3 := k3 _ _ w2 npl.symm
      -- if word in found
      refine ⟨fun σ H' => Same H3 H' ∧ ∃ (x : Str) (y3 : Option V), Nm x ∧ x ∉ xs ∧ σ = [some (.ref p), some (.int k), some (.ref l), some (.int (0 + (i : Int))), some (.str x), y3], ?_, ?_⟩
      · refine ⟨_, rfl, _, rfl, l, _, rfl, .inl (SqL.of w3), rfl, strs_flat xs, _, rfl, ?_⟩
        rw [inV_str]
        refine ite2 (fun hc => ?_) (fun hc => ?_)
        · refine ⟨_, rfl, fun D nD => ?_⟩
          refine lc_it (walk_str (z := lettersS)) (fun j H' => Same H3 H' ∧ H' D = some (.lst ((((List.range j).map fun i => (⟨#[97 + i]⟩ : Str) ++ tailS w).filter fun x => decide (x ∉ xs)).map V.str))) ⟨same_upd nD, upd_same⟩ (fun _ _ _ _ => trivial) ?_ ?_
          · rintro j x H4 H4' hj ⟨s4, w4⟩ ⟨rfl, c, hc', rfl⟩
            obtain ⟨hj26, rfl⟩ := letters_get hc'
            refine ⟨rfl, ?_⟩
            have hlen : (tailS w).length ≤ 8 := Nat.le_trans (cutS_length _ _ _) hw.2.2
            have ltot : ((⟨#[97 + j]⟩ : Str).length + (tailS w).length) ≤ sizeLine := by
              have h1 : (⟨#[97 + j]⟩ : Str).length = 1 := rfl
              rw [h1]
              exact Nat.le_of_lt (small1000 (by omega))
            refine ⟨_, rfl, _, rfl, _, rfl, w, rfl, Nat.le_trans hw.2.2 (by decide), _, _, rfl, rfl, ltot, _, rfl, l, _, rfl, .inl (SqL.of (s4 _ _ w3)), rfl, strs_flat xs, _, rfl, ?_⟩
            rw [range_map_succ', List.filter_append, List.map_append]
            show if (if true = true then !inV (.str ((⟨#[97 + j]⟩ : Str) ++ tailS w)) (xs.map V.str) else _) = true then _ else _
            rw [if_pos rfl, inV_str]
            by_cases hin : (⟨#[97 + j]⟩ : Str) ++ tailS w ∈ xs
            · rw [decide_eq_true hin]
              refine iteF ⟨s4, ?_⟩
              rw [List.filter_cons_of_neg (p := fun x => decide (x ∉ xs)) (by rw [decide_eq_false (fun z => z hin)]; exact Bool.false_ne_true)]
              rw [List.filter_nil, List.map_nil, List.append_nil]
              exact w4
            · rw [decide_eq_false hin]
              refine iteT ?_
              refine ⟨_, rfl, _, rfl, _, rfl, w, rfl, Nat.le_trans hw.2.2 (by decide), _, _, rfl, rfl, ltot, _, w4, ?_, Same.own (q := D) (H1 := H4') s4 (mut_keep rfl) nD, ?_⟩
              · rw [List.length_map]
                refine Nat.lt_of_le_of_lt (List.length_filter_le _ _) ?_
                rw [List.length_map, List.length_range]
                exact small1000 (by omega)
              · rw [upd_same, List.filter_cons_of_pos (p := fun x => decide (x ∉ xs)) (decide_eq_true hin)]
                rfl
          · rintro H4 ⟨s4, w4⟩
            rw [letters_size] at w4
            obtain ⟨x, hxm, hxf⟩ := free_in (cands_nodup (tailS w)) (ds := xs) (by unfold cands; rw [List.length_map, List.length_range]; omega)
            generalize hF : ((List.range 26).map fun i => (⟨#[97 + i]⟩ : Str) ++ tailS w).filter (fun x => decide (x ∉ xs)) = fs at w4
            have hmem : ∀ z ∈ fs, Nm z ∧ z ∉ xs := fun z hz => by
              rw [← hF] at hz
              obtain ⟨h1, h2⟩ := List.mem_filter.mp hz
              obtain ⟨i, hi, rfl⟩ := List.mem_map.mp h1
              exact ⟨cand_nm hw (List.mem_range.mp hi), of_decide_eq_true h2⟩
            have hx : x ∈ fs := by
              rw [← hF]
              exact List.mem_filter.mpr ⟨hxm, decide_eq_true hxf⟩
            cases fs with
            | nil => cases hx
            | cons z zs =>
              refine ⟨D, _, _, _, rfl, rfl, SqL.of w4, at0, s4, z, _, (hmem z (List.mem_cons_self ..)).1, (hmem z (List.mem_cons_self ..)).2, rfl⟩
        · refine ⟨Same.refl H3, w, _, hw, fun z => hc (decide_eq_true z), rfl⟩
      · rintro σ H4 ⟨s4, x, y3, hx, hxn, rfl⟩
        have w4 := s4 _ _ w3
        refine ⟨_, rfl, .inl ⟨rfl, _, SqL.of w4⟩, _, rfl, l, _, _, rfl, rfl, w4, by rw [List.length_map]; exact small1000 (by omega), ?_⟩
        have B4 := B3.same s4
        refine ⟨(B4.keep (mut_keep rfl) npl).le (by omega), ((k2.trans k3).same s4).own (mut_keep rfl) nl, xs ++ [x], _, _, _, by rw [List.length_append, hl]; rfl, ?_, fun z hz => ?_, by rw [upd_same, List.map_append]; rfl, rfl⟩
        · rw [List.nodup_append]
          exact ⟨hnd, List.nodup_cons.mpr ⟨by simp, List.nodup_nil⟩, fun a ha b hb e => hxn (by rw [List.mem_singleton.mp hb] at e; rw [← e]; exact ha)⟩
        · rcases List.mem_append.mp hz with hz | hz
          · exact hnm z hz
          · rw [List.mem_singleton.mp hz]
            exact hx
    · rintro σ H2 ⟨B2, k2, xs, y1, y2, y3, hl, hnd, hnm, w2, rfl⟩
      exact ⟨_, rfl, q xs l H2 (by omega) hnd hnm nl w2 (B2.le (by omega)) k2⟩

-- SPLIT
/-! ### some of a pool -/
def sp_law_some (K : PySem.W.Frag) : Sp := fun vs H Q _ => ∃ (p l : Addr) (k n : Nat) (xs : List Str), vs = [.ref p, .ref l, .int k] ∧ Bag n H p ∧ n < 700000000 ∧ k ≤ 20 ∧ SqL K H l (xs.map V.str) ∧ l ≠ p ∧ xs.Nodup ∧ xs.length ≤ 100 ∧ (∀ x ∈ xs, Nm x) ∧
  ∀ (ys : List Str) (t : Addr) H', ys.Nodup → (∀ y ∈ ys, y ∈ xs) → ys.length ≤ k → H t = none → H' t = some (.tup (ys.map V.str)) → Bag (n + 1 + k) H' p → Kp p H H' → Q (.ref t) H'
theorem ok_law_some (T : Txt K mg) : FnOk P w K mg base CX0 2 (He.fAd K ("_law_some", none)) T.d_law_some ["_law_bag_here", "_law_pool", "_law_most"] (sp_law_some K) := by
  refine T.F_law_some.ok sc_law_some (fun vs H Q E h => ?_) (fun cdv A outer s H vs Q E hr h => ?_)
  · obtain ⟨p, l, k, n, xs, rfl, _⟩ := h
    rfl
  · obtain ⟨p, l, k, n, xs, rfl, B, hn, hk, hL, nlp, hnd, hxl, hnm, q⟩ := h
    refine ⟨_, PSs.nox (pss_cons (ps_set (i := 3) sc_law_some.nd rfl (Or.inl rfl) (pe_callTy (T := "list")  call_list_of (by rfl) T.n_list (by decide +kernel) (pa_cons (pv 1) pa_nil)))
      (pss_cons (ps_set (i := 4) sc_law_some.nd rfl (Or.inl rfl) (pe_lst pa_nil))
      (pss_cons (ps_for PassesOwn.never rfl (pi_range1 (by rfl) T.n_range (pa_cons (pe_call (ok_law_take T) (hr.mono (by decide)) (by rfl) T.m_law_take T.F_law_take.kp T.b_law_take .nil pass0 (pa_cons (pv 0) (pa_cons (pe_op op_add (pv 2) pe_int) pa_nil))) pa_nil)) (pg_name (i := 5) sc_law_some.nd rfl (Or.inl rfl))
      (pss_one (ps_if (pt_cmpR (op_neD hr.units) (pv 3) (pe_lst pa_nil) (nomark _))
      (pss_one (ps_expr (pe_bm PySem.F.plainAttrs_list PySem.F.slot_list_append PySem.F.type_list_append mt_append (pv 4) (pa_cons (pe_bm PySem.F.plainAttrs_list PySem.F.slot_list_pop PySem.F.type_list_pop mt_popAt (pv 3) (pa_cons (pe_call (ok_law_take T) (hr.mono (by decide)) (by rfl) T.m_law_take T.F_law_take.kp T.b_law_take .nil pass0 (pa_cons (pv 0) (pa_cons (pe_callB (id := "len")  call_len_seq (by rfl) T.n_len (by decide +kernel) (pa_cons (pv 3) pa_nil)) pa_nil))) pa_nil)) pa_nil))))
      pss_nil)))
      (pss_one (ps_ret (pe_callTy (T := "tuple")  call_tuple_of (by rfl) T.n_tuple (by decide +kernel) (pa_cons (pv 4) pa_nil))))))), ?_⟩
    -- left = list(pool); found = []
    refine ⟨_, rfl, l, _, rfl, .inl hL, fun a na => ?_⟩
    generalize hE1 : upd H a _ = H1
    have w1 := new_at hE1
    have s1 := new_same hE1 na
    have npa := B.ne na
    refine ⟨by show 0 ≤ sizeLine; decide, fun b nb => ?_⟩
    generalize hE2 : upd H1 b _ = H2
    have w2 := new_at hE2
    have s2 := new_same hE2 nb
    have npb := (B.same s1).ne nb
    have nab : a ≠ b := ne_some w1 nb
    have nbH : H b = none := s1.free nb
    -- range(take(bag, most + 1))
    refine ⟨_, rfl, _, rfl, _, _, rfl, rfl, ?_⟩
    refine take_of (z := (k : Int) + 1) ((B.same s1).same s2) (by omega) (by omega) (by omega) fun r3 H3 a3 b3 B3 k3 => ?_
    have kA : Kp p H H3 := (Kp.of (s1.trans s2)).trans k3
    refine ⟨r3, rfl, by omega, by omega, for_range (lo := 0) (n := r3.toNat) (fun i σ H' => Bag (n + 1 + i) H' p ∧ Kp p H H' ∧ ∃ (ls fs : List Str) (y : Option V), H' a = some (.lst (ls.map V.str)) ∧ H' b = some (.lst (fs.map V.str)) ∧ (fs ++ ls).Nodup ∧ (∀ x ∈ fs ++ ls, x ∈ xs) ∧ fs.length ≤ i ∧ ls.length ≤ 100 ∧
        σ = [some (.ref p), some (.ref l), some (.int k), some (.ref a), some (.ref b), y])
      ⟨B3, kA, xs, [], none, k3 _ _ (s2 _ _ w1) npa.symm, k3 _ _ w2 npb.symm, hnd, fun x hx => hx, Nat.le_refl _, hxl, rfl⟩ ?_ ?_⟩
    · rintro i σ H4 hi ⟨B4, k4, ls, fs, y, wa, wb, hnd4, hsub, hfl, hll, rfl⟩
      have nmL : ∀ x ∈ ls, Nm x := fun x hx => hnm x (hsub x (List.mem_append_right _ hx))
      -- if left != []
      refine ⟨_, rfl, by show 0 ≤ sizeLine; decide, fun l5 n5 => ?_⟩
      generalize hE5 : upd H4 l5 _ = H5
      have w5 : H5 l5 = some (.lst (([] : List Str).map V.str)) := new_at hE5
      have s5 := new_same hE5 n5
      have wa5 := s5 _ _ wa
      have wb5 := s5 _ _ wb
      refine neD_strs (SqL.of wa5) (SqL.of w5) (fun x hx => (nmL x hx).ok) (fun x hx => nomatch hx) ⟨_, rfl, ?_⟩
      by_cases hls : ls = []
      · rw [decide_eq_true hls]
        refine iteF ?_
        exact ⟨(B4.same s5).le (by omega), k4.same s5, ls, fs, _, wa5, wb5, hnd4, hsub, by omega, hll, rfl⟩
      · rw [decide_eq_false hls]
        refine iteT ?_
        have hpos : 0 < ls.length := List.length_pos_iff.mpr hls
        -- found.append(left.pop(take(bag, len(left))))
        refine ⟨_, rfl, .inl ⟨rfl, _, SqL.of wb5⟩, _, rfl, .inl ⟨rfl, _, SqL.of wa5⟩, _, rfl, _, rfl, a, _, rfl, .inl (SqL.of wa5), ?_⟩
        refine take_of (z := ((ls.map V.str).length : Int)) (B4.same s5) (by rw [List.length_map]; omega) (by rw [List.length_map]; omega) (by omega) fun r6 H6 a6 b6 B6 k6 => ?_
        rw [List.length_map] at b6
        have hr : r6.toNat < ls.length := by omega
        have wa6 := k6 _ _ wa5 npa.symm
        have wb6 := k6 _ _ wb5 npb.symm
        refine ⟨a, _, r6, r6.toNat, .str ls[r6.toNat], rfl, rfl, wa6, by omega, by omega, by rw [List.length_map]; exact seq_ix a6 b6, by rw [List.getElem?_map, List.getElem?_eq_getElem hr]; rfl, ?_⟩
        generalize hE7 : upd H6 a _ = H7
        have wa7 := new_at hE7
        have m7 := mut_keep hE7
        have wb7 := m7 _ _ wb6 nab.symm
        refine ⟨b, _, _, rfl, rfl, wb7, by rw [List.length_map]; exact small1000 (by omega), ?_⟩
        generalize hE8 : upd H7 b _ = H8
        have wb8 := new_at hE8
        have m8 := mut_keep hE8
        have hperm : (fs ++ [ls[r6.toNat]] ++ ls.eraseIdx r6.toNat).Perm (fs ++ ls) := by
          rw [List.append_assoc]
          exact List.Perm.append_left fs (perm_pick ls r6.toNat hr)
        refine ⟨((B6.keep m7 npa).keep m8 npb).le (by omega), (((k4.same s5).trans k6).own m7 na).own m8 nbH, ls.eraseIdx r6.toNat, fs ++ [ls[r6.toNat]], _, ?_, by rw [List.map_append]; exact wb8, hperm.nodup_iff.mpr hnd4, fun x hx => hsub x (hperm.mem_iff.mp hx), by rw [List.length_append]; exact Nat.succ_le_succ hfl, Nat.le_trans (List.length_eraseIdx_le ..) hll, rfl⟩
        have wa8 := m8 _ _ wa7 nab
        rw [map_pick] at wa8
        exact wa8
    · rintro σ H4 ⟨B4, k4, ls, fs, y, wa, wb, hnd4, hsub, hfl, hll, rfl⟩
      refine ⟨_, rfl, b, _, rfl, .inl ⟨SqL.of wb, fun t nt => ?_⟩⟩
      have ntp := (B4.ne nt).symm
      exact q fs t _ (List.nodup_append.mp hnd4).1 (fun y hy => hsub y (List.mem_append_left _ hy)) (by omega) (k4.free nt ntp) upd_same ((B4.same (same_upd nt)).le (by omega)) (k4.same (same_upd nt))

/-! ### a rule, its parts -/
def sp_law_rule_parts (K : PySem.W.Frag) : Sp := fun vs H Q _ => ∃ (p : Addr) (n : Nat), vs = [.ref p] ∧ Bag n H p ∧ n < 800000000 ∧
  ∀ (f m t b s : Int) (v : Addr) H', Five f m t b s → H v = none → H' v = some (.tup [.int f, .int m, .int t, .int b, .int s]) → Bag (n + 10) H' p → Kp p H H' → Q (.ref v) H'
theorem ok_law_rule_parts (T : Txt K mg) : FnOk P w K mg base CX0 2 (He.fAd K ("_law_rule_parts", none)) T.d_law_rule_parts ["_law_bag_here"] (sp_law_rule_parts K) := by
  refine T.F_law_rule_parts.ok sc_law_rule_parts (fun vs H Q E h => ?_) (fun cdv A outer s H vs Q E hr h => ?_)
  · obtain ⟨p, n, rfl, _⟩ := h
    rfl
  · obtain ⟨p, n, rfl, B, hn, q⟩ := h
    refine ⟨_, PSs.nox (pss_cons (ps_set (i := 1) sc_law_rule_parts.nd rfl (Or.inl rfl) (pe_lst (pa_cons (pe_op op_add pe_int (pe_call (ok_law_take T) (hr.mono (by decide)) (by rfl) T.m_law_take T.F_law_take.kp T.b_law_take .nil pass0 (pa_cons (pv 0) (pa_cons (pe_ix ix_list (pe_lst (pa_cons pe_int (pa_cons pe_int pa_nil))) (pe_call (ok_law_take T) (hr.mono (by decide)) (by rfl) T.m_law_take T.F_law_take.kp T.b_law_take .nil pass0 (pa_cons (pv 0) (pa_cons pe_int pa_nil))) (fun _ _ => rfl)) pa_nil)))) (pa_cons (pe_op op_add pe_int (pe_call (ok_law_take T) (hr.mono (by decide)) (by rfl) T.m_law_take T.F_law_take.kp T.b_law_take .nil pass0 (pa_cons (pv 0) (pa_cons (pe_ix ix_list (pe_lst (pa_cons pe_int (pa_cons pe_int pa_nil))) (pe_call (ok_law_take T) (hr.mono (by decide)) (by rfl) T.m_law_take T.F_law_take.kp T.b_law_take .nil pass0 (pa_cons (pv 0) (pa_cons pe_int pa_nil))) (fun _ _ => rfl)) pa_nil)))) pa_nil))))
      (pss_cons (ps_expr (pe_bm PySem.F.plainAttrs_list PySem.F.slot_list_append PySem.F.type_list_append mt_append (pv 1) (pa_cons (pe_op op_add pe_int (pe_call (ok_law_take T) (hr.mono (by decide)) (by rfl) T.m_law_take T.F_law_take.kp T.b_law_take .nil pass0 (pa_cons (pv 0) (pa_cons (pe_ix ix_list (pe_lst (pa_cons pe_int (pa_cons pe_int (pa_cons (pe_op op_powL pe_int pe_int) pa_nil)))) (pe_call (ok_law_take T) (hr.mono (by decide)) (by rfl) T.m_law_take T.F_law_take.kp T.b_law_take .nil pass0 (pa_cons (pv 0) (pa_cons pe_int pa_nil))) (fun _ _ => rfl)) pa_nil)))) pa_nil)))
      (pss_cons (ps_expr (pe_bm PySem.F.plainAttrs_list PySem.F.slot_list_append PySem.F.type_list_append mt_append (pv 1) (pa_cons (pe_call (ok_law_take T) (hr.mono (by decide)) (by rfl) T.m_law_take T.F_law_take.kp T.b_law_take .nil pass0 (pa_cons (pv 0) (pa_cons (pe_ix ix_list (pe_lst (pa_cons pe_int (pa_cons pe_int pa_nil))) (pe_call (ok_law_take T) (hr.mono (by decide)) (by rfl) T.m_law_take T.F_law_take.kp T.b_law_take .nil pass0 (pa_cons (pv 0) (pa_cons pe_int pa_nil))) (fun _ _ => rfl)) pa_nil))) pa_nil)))
      (pss_one (ps_ret (pe_callTy (T := "tuple")  call_tuple_of (by rfl) T.n_tuple (by decide +kernel) (pa_cons (pe_op op_cat (pv 1) (pe_lst (pa_cons (pe_call (ok_law_take T) (hr.mono (by decide)) (by rfl) T.m_law_take T.F_law_take.kp T.b_law_take .nil pass0 (pa_cons (pv 0) (pa_cons (pe_ix ix_list (pe_lst (pa_cons pe_int (pa_cons pe_int (pa_cons (pe_op op_add (pe_op op_powL pe_int pe_int) pe_int) pa_nil)))) (pe_call (ok_law_take T) (hr.mono (by decide)) (by rfl) T.m_law_take T.F_law_take.kp T.b_law_take .nil pass0 (pa_cons (pv 0) (pa_cons pe_int pa_nil))) (fun _ _ => rfl)) pa_nil))) pa_nil))) pa_nil))))))), ?_⟩
    refine ⟨_, rfl, by show 2 ≤ sizeLine; decide, fun l1 n1 => ⟨_, rfl, ?_⟩⟩
    refine take_menu (zs := [3, 1000]) B (by omega) n1 rfl (by decide) (by decide) (by decide) fun z1 r1 H1 hz1 a1 b1 B1 k1 => ?_
    refine ⟨_, _, rfl, rfl, _, rfl, by show 2 ≤ sizeLine; decide, fun l2 n2 => ⟨_, rfl, ?_⟩⟩
    refine take_menu (zs := [3, 10]) B1 (by omega) n2 rfl (by decide) (by decide) (by decide) fun z2 r2 H2 hz2 a2 b2 B2 k2 => ?_
    have k12 := k1.trans k2
    refine ⟨_, _, rfl, rfl, by show 2 ≤ sizeLine; decide, fun some n3 => ?_⟩
    have npS := B2.ne n3
    have n3' := k12.free n3 npS.symm
    generalize hE : upd H2 some _ = H3
    have w3 := new_at hE
    have s3 := new_same hE n3
    have k13 := k12.same s3
    -- append top
    refine ⟨_, rfl, .inl ⟨rfl, _, SqL.of w3⟩, _, rfl, _, _, rfl, rfl, pow10, by show 3 ≤ sizeLine; decide, fun l4 n4 => ⟨_, rfl, ?_⟩⟩
    refine take_menu (zs := [20, 1000, 10 ^ (6 : Int).toNat]) (B2.same s3) (by omega) n4 rfl (by decide) (by decide) (by decide) fun z3 r3 H4 hz3 a3 b3 B4 k4 => ?_
    have w4 := k4 _ _ w3 npS.symm
    refine ⟨_, _, rfl, rfl, some, _, _, rfl, rfl, w4, by show 2 < sizeLine; decide, ?_⟩
    generalize hE5 : upd H4 some _ = H5
    have w5 := new_at hE5
    have m5 := mut_keep hE5
    have B5 := B4.keep m5 npS
    have k15 := (k13.trans k4).own m5 n3'
    -- append burst
    refine ⟨_, rfl, .inl ⟨rfl, _, SqL.of w5⟩, _, rfl, by show 2 ≤ sizeLine; decide, fun l6 n6 => ⟨_, rfl, ?_⟩⟩
    refine take_menu (zs := [4, 21]) B5 (by omega) n6 rfl (by decide) (by decide) (by decide) fun z4 r4 H6 hz4 a4 b4 B6 k6 => ?_
    have w6 := k6 _ _ w5 npS.symm
    refine ⟨some, _, _, rfl, rfl, w6, by show 3 < sizeLine; decide, ?_⟩
    generalize hE7 : upd H6 some _ = H7
    have w7 := new_at hE7
    have m7 := mut_keep hE7
    have B7 := B6.keep m7 npS
    have k17 := (k15.trans k6).own m7 n3'
    -- tuple(some + [span])
    refine ⟨_, rfl, _, rfl, _, _, rfl, rfl, pow10, _, _, rfl, rfl, by show 3 ≤ sizeLine; decide, fun l8 n8 => ⟨_, rfl, ?_⟩⟩
    refine take_menu (zs := [30, 1000, 10 ^ (6 : Int).toNat + 1]) B7 (by omega) n8 rfl (by decide) (by decide) (by decide) fun z5 r5 H8 hz5 a5 b5 B8 k8 => ?_
    have w8 := k8 _ _ w7 npS.symm
    refine ⟨by show 1 ≤ sizeLine; decide, fun l9 n9 => ?_⟩
    generalize hE9 : upd H8 l9 _ = H9
    have w9 := new_at hE9
    have s9 := new_same hE9 n9
    refine ⟨some, l9, _, _, rfl, rfl, s9 _ _ w8, w9, by show 5 ≤ sizeLine; decide, fun l10 n10 => ?_⟩
    generalize hE10 : upd H9 l10 _ = H10
    have w10 := new_at hE10
    have s10 := new_same hE10 n10
    refine ⟨l10, _, rfl, .inl ⟨SqL.of w10, fun v nv => ?_⟩⟩
    generalize hE11 : upd H10 v _ = H11
    have w11 := new_at hE11
    have s11 := new_same hE11 nv
    have s8 : Same H8 H11 := (s9.trans s10).trans s11
    have k18 : Kp p H H11 := (k17.trans k8).same s8
    have npv : v ≠ p := fun e => by
      rw [e] at nv
      obtain ⟨o, ho⟩ := (B8.same (s9.trans s10)).some
      rw [ho] at nv
      cases nv
    refine q (1 + r1) (1 + r2) (1 + r3) r4 r5 v H11 ⟨?_, ?_, ?_, ?_, ?_, ?_, ?_, ?_, ?_, ?_⟩ (k17.trans k8 |>.same (s9.trans s10) |>.free nv npv) w11 (B8.same s8) k18
    all_goals (have e6 : (10 : Int) ^ (6 : Int).toNat = 1000000 := by decide
               simp only [List.mem_cons, List.not_mem_nil, or_false, e6] at hz1 hz2 hz3 hz4 hz5; omega)

/-! ### the rule itself -/
abbrev rFs (f m t b s : Int) : List (Str × V) := [("first", .int f), ("times", .int m), ("top", .int t), ("burst", .int b), ("span", .int s)]
/-- a rule stands at a -/
def RuleAt (K : PySem.W.Frag) (H : Hp) (a : Addr) (f m t b s : Int) : Prop := ∃ dx, H a = some (.ins (He.ga K "Rule") dx (rFs f m t b s))
theorem RuleAt.same {H H' : Hp} {a : Addr} {f m t b s : Int} (h : RuleAt K H a f m t b s) (e : Same H H') : RuleAt K H' a f m t b s := by
  obtain ⟨dx, h⟩ := h
  exact ⟨dx, e _ _ h⟩
theorem RuleAt.keep {H H' : Hp} {a p : Addr} {f m t b s : Int} (h : RuleAt K H a f m t b s) (e : Kp p H H') (n : a ≠ p) : RuleAt K H' a f m t b s := by
  obtain ⟨dx, h⟩ := h
  exact ⟨dx, e _ _ h n⟩
def sp_Rule_init (K : PySem.W.Frag) : Sp := fun vs H Q _ => ∃ (p dx : Addr) (f m t b s : Int), vs = [.ref p, .int f, .int m, .int t, .int b, .int s] ∧ H p = some (.ins (He.ga K "Rule") dx []) ∧
  ∀ H', H' p = some (.ins (He.ga K "Rule") dx (rFs f m t b s)) → Kp p H H' → Q .non H'
theorem ok_Rule_init (T : Txt K mg) : FnOk P w K mg base CX0 1 (He.fAd K ("Rule", some "__init__")) T.d_Rule_init ["self", "first", "times", "top", "burst", "span"] (sp_Rule_init K) := by
  refine T.F_Rule_init.ok sc_Rule_init (fun vs H Q E h => ?_) (fun cdv A outer s H vs Q E hr h => ?_)
  · obtain ⟨p, dx, f, m, t, b, s, rfl, _⟩ := h
    rfl
  · obtain ⟨p, dx, f, m, t, b, s, rfl, hp, q⟩ := h
    refine ⟨_, PSs.nox (pss_cons (ps_fld (pv 0) (pv 1) rfl)
      (pss_cons (ps_fld (pv 0) (pv 2) rfl)
      (pss_cons (ps_fld (pv 0) (pv 3) rfl)
      (pss_cons (ps_fld (pv 0) (pv 4) rfl)
      (pss_one (ps_fld (pv 0) (pv 5) rfl)))))), ?_⟩
    refine ⟨_, rfl, _, rfl, p, _, dx, [], rfl, hp, T.cl_Rule, T.na_Rule_first, (by show 0 < 1000; decide), ?_⟩
    refine ⟨_, rfl, _, rfl, p, _, dx, _, rfl, upd_same, T.cl_Rule, T.na_Rule_times, (by show 1 < 1000; decide), ?_⟩
    refine ⟨_, rfl, _, rfl, p, _, dx, _, rfl, upd_same, T.cl_Rule, T.na_Rule_top, (by show 2 < 1000; decide), ?_⟩
    refine ⟨_, rfl, _, rfl, p, _, dx, _, rfl, upd_same, T.cl_Rule, T.na_Rule_burst, (by show 3 < 1000; decide), ?_⟩
    refine ⟨_, rfl, _, rfl, p, _, dx, _, rfl, upd_same, T.cl_Rule, T.na_Rule_span, (by show 4 < 1000; decide), ?_⟩
    refine q _ upd_same fun c o h n => ?_
    rw [upd_ne n, upd_ne n, upd_ne n, upd_ne n, upd_ne n]
    exact h

def sp_law_rule (K : PySem.W.Frag) : Sp := fun vs H Q _ => ∃ (v : Addr) (f m t b s : Int), vs = [.ref v] ∧ SqT K H v [.int f, .int m, .int t, .int b, .int s] ∧
  ∀ a H', H a = none → Same H H' → RuleAt K H' a f m t b s → Q (.ref a) H'
theorem ok_law_rule (T : Txt K mg) : FnOk P w K mg base CX0 3 (He.fAd K ("_law_rule", none)) T.d_law_rule ["_law_five"] (sp_law_rule K) := by
  refine T.F_law_rule.ok sc_law_rule (fun vs H Q E h => ?_) (fun cdv A outer s H vs Q E hr h => ?_)
  · obtain ⟨v, f, m, t, b, s, rfl, _⟩ := h
    rfl
  · obtain ⟨v, f, m, t, b, s, rfl, hv, q⟩ := h
    refine ⟨_, PSs.nox (pss_one (ps_ret (pe_makeK0 T.mk_Rule (ok_Rule_init T) (hr.mono (by decide)) (by rfl) T.m_Rule T.kb_Rule_init_1_first_times_top_burst_span.choose_spec pass0 (pk_cons (pe_ix ix_tup (pv 0) pe_int (fun _ _ => rfl)) (pk_cons (pe_ix ix_tup (pv 0) pe_int (fun _ _ => rfl)) (pk_cons (pe_ix ix_tup (pv 0) pe_int (fun _ _ => rfl)) (pk_cons (pe_ix ix_tup (pv 0) pe_int (fun _ _ => rfl)) (pk_cons (pe_ix ix_tup (pv 0) pe_int (fun _ _ => rfl)) pk_nil)))))))), ?_⟩
    refine ⟨_, rfl, v, _, _, _, rfl, rfl, hv, at0, _, rfl, v, _, _, _, rfl, rfl, hv, at1, _, rfl, v, _, _, _, rfl, rfl, hv, at2, _, rfl, v, _, _, _, rfl, rfl, hv, at3, _, rfl, v, _, _, _, rfl, rfl, hv, at4, rfl, rfl, fun x dx nx nd ne => ?_⟩
    refine ⟨x, dx, f, m, t, b, s, rfl, upd_same, fun H' w kp => ⟨rfl, q x H' nx (Same.made nx nd fun b o e n => kp b o e n) ⟨dx, w⟩⟩⟩

-- SPLIT
/-! ### the facts -/
def sp_law_facts (K : PySem.W.Frag) : Sp := fun vs H Q _ => ∃ (p : Addr) (k n : Nat), vs = [.ref p, .int k] ∧ Bag n H p ∧ n < 600000000 ∧ 0 < k ∧ k ≤ 16 ∧
  ∀ (ns ss : List Str) (us : List (Str × UF)) (kvs : List (Key × V)) (d : Addr) H', us.map (·.1) = ns → ns.Nodup → (∀ x ∈ ns, Nm x) → 0 < ns.length → ns.length ≤ k → ss.Nodup → (∀ x ∈ ss, Nm x ∧ x ∉ ns) → ss.length ≤ 2 →
    (∀ q ∈ us, UOk ns ss q.1 q.2) → FactsAt H' kvs us → H d = none → H' d = some (.dK kvs) → Bag (n + 2000) H' p → Kp p H H' → Q (.ref d) H'
theorem ok_law_facts (T : Txt K mg) : FnOk P w K mg base CX0 4 (He.fAd K ("_law_facts", none)) T.d_law_facts ["_law_bag_here", "_law_most"] (sp_law_facts K) := by
  refine T.F_law_facts.ok sc_law_facts (fun vs H Q E h => ?_) (fun cdv A outer s H vs Q E hr h => ?_)
  · obtain ⟨p, k, n, rfl, _⟩ := h
    rfl
  · obtain ⟨p, k, n, rfl, B, hn, hk0, hk, q⟩ := h
    refine ⟨_, PSs.nox (pss_cons (ps_set (i := 2) sc_law_facts.nd rfl (Or.inr rfl) (pe_call (ok_law_names T) (hr.mono (by decide)) (by rfl) T.m_law_names T.F_law_names.kp T.b_law_names .nil pass0 (pa_cons (pv 0) (pa_cons (pe_op op_add pe_int (pe_call (ok_law_take T) (hr.mono (by decide)) (by rfl) T.m_law_take T.F_law_take.kp T.b_law_take .nil pass0 (pa_cons (pv 0) (pa_cons (pv 1) pa_nil)))) pa_nil))))
      (pss_cons (ps_set (i := 3) sc_law_facts.nd rfl (Or.inl rfl) (pe_slice sl_list (pe_lc (own := [("_law_one", 17)]) (by rfl) sc_law_facts.nd (pi_str pe_str) (blkOk_by (own := [("_law_one", 17)]) (N := N_law_facts) (sc := defScope s_law_facts) (by decide +kernel)) (fun _ _ _ _ _ => (pg_name (i := 17) sc_law_facts.nd rfl (Or.inl rfl))) (fun _ _ _ _ _ => (pts_one (pt_cmpR (r := rIn K true) op_notIn_seq (pe_op op_add_str (pv 17) pe_str) (pv 2) (by rfl)))) (fun _ _ _ _ _ => (pe_op op_add_str (pv 17) pe_str))) po_none (po_some pe_int)))
      (pss_cons (ps_set (i := 4) sc_law_facts.nd rfl (Or.inl rfl) (pe_cmpR op_eq (pe_call (ok_law_take T) (hr.mono (by decide)) (by rfl) T.m_law_take T.F_law_take.kp T.b_law_take .nil pass0 (pa_cons (pv 0) (pa_cons pe_int pa_nil))) pe_int (nomark _)))
      (pss_cons (ps_set (i := 5) sc_law_facts.nd rfl (Or.inl rfl) pe_dnewK)
      (pss_cons (ps_for PassesOwn.never rfl (pi_list (pv 2)) (pg_name (i := 6) sc_law_facts.nd rfl (Or.inr rfl))
      (pss_cons (ps_setLc (i := 7) (own := [("_law_one", 17)]) (by rfl) sc_law_facts.nd rfl rfl (sw_true rfl rfl rfl (by decide +kernel)) (pi_list (pv 2)) (blkOk_by (own := [("_law_one", 17)]) (N := N_law_facts) (sc := defScope s_law_facts) (by decide +kernel)) (fun _ _ _ _ _ => (pg_name (i := 17) sc_law_facts.nd rfl (Or.inl rfl))) (fun _ _ _ _ _ => (pts_one (pt_cmpR op_ne (pv 17) (pv 6) (nomark _)))) (fun _ _ _ _ _ => (pv 17)))
      (pss_cons (ps_set (i := 8) sc_law_facts.nd rfl (Or.inl rfl) (pe_ix ix_list (pe_lst (pa_cons pe_int (pa_cons pe_int (pa_cons pe_int (pa_cons pe_int (pa_cons pe_int pa_nil)))))) (pe_call (ok_law_take T) (hr.mono (by decide)) (by rfl) T.m_law_take T.F_law_take.kp T.b_law_take .nil pass0 (pa_cons (pv 0) (pa_cons pe_int pa_nil))) (fun _ _ => rfl)))
      (pss_cons (ps_set (i := 9) sc_law_facts.nd rfl (Or.inl rfl) (pe_call (ok_law_some T) (hr.mono (by decide)) (by rfl) T.m_law_some T.F_law_some.kp T.b_law_some .nil pass0 (pa_cons (pv 0) (pa_cons (pe_op op_cat (pv 7) (pe_slice sl_list (pv 3) po_none (po_some (pe_callTy (T := "int")  call_int1 (by rfl) T.n_int (by decide +kernel) (pa_cons (pe_cmpR op_eq (pe_call (ok_law_take T) (hr.mono (by decide)) (by rfl) T.m_law_take T.F_law_take.kp T.b_law_take .nil pass0 (pa_cons (pv 0) (pa_cons pe_int pa_nil))) pe_int (nomark _)) pa_nil))))) (pa_cons (pv 8) pa_nil)))))
      (pss_cons (ps_set (i := 10) sc_law_facts.nd rfl (Or.inl rfl) (pe_ix ix_list (pe_lst (pa_cons pe_int (pa_cons pe_int (pa_cons pe_int (pa_cons pe_int (pa_cons pe_int (pa_cons pe_int (pa_cons pe_int (pa_cons pe_int pa_nil))))))))) (pe_call (ok_law_take T) (hr.mono (by decide)) (by rfl) T.m_law_take T.F_law_take.kp T.b_law_take .nil pass0 (pa_cons (pv 0) (pa_cons pe_int pa_nil))) (fun _ _ => rfl)))
      (pss_cons (ps_set (i := 11) sc_law_facts.nd rfl (Or.inl rfl) (pe_call (ok_law_some T) (hr.mono (by decide)) (by rfl) T.m_law_some T.F_law_some.kp T.b_law_some .nil pass0 (pa_cons (pv 0) (pa_cons (pe_op op_cat (pv 7) (pe_slice sl_list (pv 3) po_none (po_some (pe_callTy (T := "int")  call_int1 (by rfl) T.n_int (by decide +kernel) (pa_cons (pe_cmpR op_eq (pe_call (ok_law_take T) (hr.mono (by decide)) (by rfl) T.m_law_take T.F_law_take.kp T.b_law_take .nil pass0 (pa_cons (pv 0) (pa_cons pe_int pa_nil))) pe_int (nomark _)) pa_nil))))) (pa_cons (pv 10) pa_nil)))))
      (pss_cons (ps_set (i := 12) sc_law_facts.nd rfl (Or.inl rfl) (pe_call (ok_law_some T) (hr.mono (by decide)) (by rfl) T.m_law_some T.F_law_some.kp T.b_law_some .nil pass0 (pa_cons (pv 0) (pa_cons (pe_op op_cat (pv 7) (pe_slice sl_list (pv 3) po_none (po_some pe_int))) (pa_cons (pe_op op_mul (pe_ix ix_list (pe_lst (pa_cons pe_int (pa_cons pe_int (pa_cons pe_int (pa_cons pe_int pa_nil))))) (pe_call (ok_law_take T) (hr.mono (by decide)) (by rfl) T.m_law_take T.F_law_take.kp T.b_law_take .nil pass0 (pa_cons (pv 0) (pa_cons pe_int pa_nil))) (fun _ _ => rfl)) (pe_callTy (T := "int")  call_int1 (by rfl) T.n_int (by decide +kernel) (pa_cons (pe_not (pv 4)) pa_nil))) pa_nil)))))
      (pss_cons (ps_set (i := 13) sc_law_facts.nd rfl (Or.inl rfl) (pe_call (ok_law_some T) (hr.mono (by decide)) (by rfl) T.m_law_some T.F_law_some.kp T.b_law_some .nil pass0 (pa_cons (pv 0) (pa_cons (pe_op op_cat (pv 7) (pv 3)) (pa_cons (pe_ix ix_list (pe_lst (pa_cons pe_int (pa_cons pe_int (pa_cons pe_int (pa_cons pe_int pa_nil))))) (pe_call (ok_law_take T) (hr.mono (by decide)) (by rfl) T.m_law_take T.F_law_take.kp T.b_law_take .nil pass0 (pa_cons (pv 0) (pa_cons pe_int pa_nil))) (fun _ _ => rfl)) pa_nil)))))
      (pss_cons (ps_set (i := 14) sc_law_facts.nd rfl (Or.inl rfl) (pe_ix ix_list (pe_lst (pa_cons pe_str (pa_cons pe_str (pa_cons pe_str (pa_cons pe_str (pa_cons pe_str pa_nil)))))) (pe_call (ok_law_take T) (hr.mono (by decide)) (by rfl) T.m_law_take T.F_law_take.kp T.b_law_take .nil pass0 (pa_cons (pv 0) (pa_cons pe_int pa_nil))) (fun _ _ => rfl)))
      (pss_cons (ps_set (i := 15) sc_law_facts.nd rfl (Or.inl rfl) (pe_mid (pe_ifExp (pt_cmpR op_eq (pv 14) pe_str (nomark _)) (pe_ix ix_list (pe_op op_cat (pv 7) (pv 3)) (pe_call (ok_law_take T) (hr.mono (by decide)) (by rfl) T.m_law_take T.F_law_take.kp T.b_law_take .nil pass0 (pa_cons (pv 0) (pa_cons (pe_op op_add (pe_callB (id := "len")  call_len_seq (by rfl) T.n_len (by decide +kernel) (pa_cons (pv 7) pa_nil)) pe_int) pa_nil))) (fun _ _ => rfl)) pe_non)))
      (pss_cons (ps_set (i := 16) sc_law_facts.nd rfl (Or.inl rfl) (pe_mid (pe_ifExp (pt_cmpR op_gt (pe_call (ok_law_take T) (hr.mono (by decide)) (by rfl) T.m_law_take T.F_law_take.kp T.b_law_take .nil pass0 (pa_cons (pv 0) (pa_cons pe_int pa_nil))) pe_int (nomark _)) (pe_call (ok_law_rule_parts T) (hr.mono (by decide)) (by rfl) T.m_law_rule_parts T.F_law_rule_parts.kp T.b_law_rule_parts .nil pass0 (pa_cons (pv 0) pa_nil)) pe_non)))
      (pss_one (ps_dput (hu_of hr) (pv 5) (pv 6) (pe_tup (pa_cons (pv 14) (pa_cons (pv 9) (pa_cons (pv 11) (pa_cons (pv 12) (pa_cons (pv 13) (pa_cons (pv 15) (pa_cons (pv 16) pa_nil)))))))) rfl)))))))))))))
      (pss_one (ps_ret (pv 5)))))))), ?_⟩
    -- named = names(bag, 1 + take(bag, most))
    refine ⟨_, rfl, _, rfl, _, rfl, ?_⟩
    refine take_of (z := (k : Int)) B (by omega) (by omega) (by omega) fun r1 H1 a1 b1 B1 k1 => ?_
    obtain ⟨j1, rfl⟩ := Int.eq_ofNat_of_zero_le a1
    refine ⟨_, _, rfl, rfl, p, 1 + j1, n + 1, rfl, B1, by omega, by omega, fun ns l H2 hnl hnd hnm nl w2 B2 k2 => ?_⟩
    have kA := k1.trans k2
    have npl : l ≠ p := fun e => by
      obtain ⟨o, ho⟩ := B1.some
      rw [e, ho] at nl
      cases nl
    -- strange
    refine ⟨_, rfl, fun D nD => ?_⟩
    refine lc_it (walk_str (z := srettelS)) (fun j H' => Same H2 H' ∧ H' D = some (.lst ((((List.range j).map fun i => (⟨#[122 - i]⟩ : Str) ++ Str.ofString "zz").filter fun x => decide (x ∉ ns)).map V.str))) ⟨same_upd nD, upd_same⟩ (fun _ _ _ _ => trivial) ?_ ?_
    · rintro j x H4 H4' hj ⟨s4, w4⟩ ⟨rfl, c, hc', rfl⟩
      obtain ⟨hj26, rfl⟩ := srettel_get hc'
      refine ⟨rfl, ?_⟩
      have ltot : ((⟨#[122 - j]⟩ : Str).length + (Str.ofString "zz").length) ≤ sizeLine := by
        have h1 : (⟨#[122 - j]⟩ : Str).length = 1 := rfl
        rw [h1]
        decide +kernel
      refine ⟨_, rfl, _, _, rfl, rfl, ltot, _, rfl, l, _, rfl, .inl (SqL.of (s4 _ _ w2)), rfl, strs_flat ns, _, rfl, ?_⟩
      rw [range_map_succ', List.filter_append, List.map_append]
      show if (if true = true then !inV (.str ((⟨#[122 - j]⟩ : Str) ++ Str.ofString "zz")) (ns.map V.str) else _) = true then _ else _
      rw [if_pos rfl, inV_str]
      by_cases hin : (⟨#[122 - j]⟩ : Str) ++ Str.ofString "zz" ∈ ns
      · rw [decide_eq_true hin]
        refine iteF ⟨s4, ?_⟩
        rw [List.filter_cons_of_neg (p := fun x => decide (x ∉ ns)) (by rw [decide_eq_false (fun z => z hin)]; exact Bool.false_ne_true)]
        rw [List.filter_nil, List.map_nil, List.append_nil]
        exact w4
      · rw [decide_eq_false hin]
        refine iteT ?_
        refine ⟨_, rfl, _, _, rfl, rfl, ltot, _, w4, ?_, Same.own (q := D) (H1 := H4') s4 (mut_keep rfl) nD, ?_⟩
        · rw [List.length_map]
          refine Nat.lt_of_le_of_lt (List.length_filter_le _ _) ?_
          rw [List.length_map, List.length_range]
          exact small1000 (by omega)
        · rw [upd_same, List.filter_cons_of_pos (p := fun x => decide (x ∉ ns)) (decide_eq_true hin)]
          rfl
    rintro H4 ⟨s4, w4⟩
    rw [srettel_size] at w4
    have hpos := filter_free (rcands_nodup (Str.ofString "zz")) (ds := ns) (by unfold rcands; rw [List.length_map, List.length_range]; omega)
    have hcn := List.Nodup.sublist List.filter_sublist (rcands_nodup (Str.ofString "zz")) (l₁ := (rcands (Str.ofString "zz")).filter fun x => decide (x ∉ ns))
    have hcm : ∀ x ∈ (rcands (Str.ofString "zz")).filter fun x => decide (x ∉ ns), Nm x ∧ x ∉ ns := fun x hx => by
      obtain ⟨h1, h2⟩ := List.mem_filter.mp hx
      obtain ⟨i, hi, rfl⟩ := List.mem_map.mp h1
      exact ⟨rcand_nm (List.mem_range.mp hi), of_decide_eq_true h2⟩
    change H4 D = some (.lst (((rcands (Str.ofString "zz")).filter fun x => decide (x ∉ ns)).map V.str)) at w4
    generalize (rcands (Str.ofString "zz")).filter (fun x => decide (x ∉ ns)) = fs at hpos hcn hcm w4
    refine ⟨_, rfl, D, _, rfl, SqL.of w4, fun a na => ?_⟩
    rw [show cutV (fs.map V.str) none (some 2) = (fs.take 2).map V.str from cutV_strs fs 2]
    have ssn : (fs.take 2).Nodup := List.Nodup.sublist (List.take_sublist _ _) hcn
    have ssm : ∀ x ∈ fs.take 2, Nm x ∧ x ∉ ns := fun x hx => hcm x (List.mem_of_mem_take hx)
    have ssl : (fs.take 2).length ≤ 2 := by rw [List.length_take]; omega
    have ssp : 0 < (fs.take 2).length := by rw [List.length_take]; omega
    generalize fs.take 2 = ss at ssn ssm ssl ssp
    generalize hE5 : upd H4 a _ = H5
    have wa := new_at hE5
    have s5 := s4.trans (new_same hE5 na)
    have wl := s5 _ _ w2
    have npa : p ≠ a := (B2.same s4).ne na
    have nla : l ≠ a := ne_some (s4 _ _ w2) na
    -- loose
    refine ⟨_, rfl, ?_⟩
    refine take_of (z := 4) (B2.same s5) (by decide) (by decide) (by omega) fun r6 H6 a6 b6 B6 k6 => ?_
    have kB := (kA.same s5).trans k6
    have wl6 := k6 _ _ wl npl
    have wa6 := k6 _ _ wa npa.symm
    refine ⟨rfl, fun d nd => ?_⟩
    generalize decide (V.int r6 = V.int 0) = loose
    generalize hE7 : upd H6 d _ = H7
    have wd := new_at hE7
    have s7 := new_same hE7 nd
    have npd := B6.ne nd
    have nld : l ≠ d := ne_some wl6 nd
    have nad : a ≠ d := ne_some wa6 nd
    have ndH : H d = none := kB.free nd npd.symm
    -- for word in named
    refine ⟨_, rfl, l, rfl, ⟨_, SqL.of (s7 _ _ wl6)⟩, for_list (xs := ns.map V.str) (fun i σ H' => Bag (n + 300 + 100 * i) H' p ∧ Kp p H H' ∧ ∃ (us : List (Str × UF)) (kvs : List (Key × V)) (y6 y7 y8 y9 y10 y11 y12 y13 y14 y15 y16 y17 : Option V), us.map (·.1) = ns.take i ∧ (∀ q ∈ us, UOk ns ss q.1 q.2) ∧ FactsAt H' kvs us ∧ H' d = some (.dK kvs) ∧ H' l = some (.lst (ns.map V.str)) ∧ H' a = some (.lst (ss.map V.str)) ∧
        σ = [some (.ref p), some (.int k), some (.ref l), some (.ref a), some (.bl loose), some (.ref d), y6, y7, y8, y9, y10, y11, y12, y13, y14, y15, y16, y17])
      ⟨(B6.same s7).le (by omega), kB.same s7, [], [], none, none, none, none, none, none, none, none, none, none, none, none, rfl, (fun q hq => nomatch hq), .nil, wd, s7 _ _ wl6, s7 _ _ wa6, rfl⟩ ?_ ?_ ?_⟩
    · rintro i σ H' hi ⟨B8, k8, us, kvs, y6, y7, y8, y9, y10, y11, y12, y13, y14, y15, y16, y17, hus, huo, hfa, wd8, wl8, wa8, rfl⟩
      exact SqL.of wl8
    · rintro i x σ H8 hi ⟨B8, k8, us, kvs, y6, y7, y8, y9, y10, y11, y12, y13, y14, y15, y16, y17, hus, huo, hfa, wd8, wl8, wa8, rfl⟩
      obtain ⟨word, hword, rfl⟩ := map_str_get hi
      have hil : i < ns.length := by
        rw [List.getElem?_eq_some_iff] at hword
        exact hword.1
      have hwn : word ∈ ns := List.mem_of_getElem? hword
      -- pool
      refine ⟨_, rfl, l, rfl, ⟨_, SqL.of wl8⟩, fun D nD => ?_⟩
      refine lc_list (xs := ns.map V.str) (fun j H' => Same H8 H' ∧ H' D = some (.lst (((ns.take j).filter fun x => decide (x ≠ word)).map V.str))) ⟨same_upd nD, upd_same⟩ (fun j H' hj h => SqL.of (h.1 _ _ wl8)) ?_ ?_
      · rintro j x H9 hj ⟨s9, w9⟩
        obtain ⟨one, hone, rfl⟩ := map_str_get hj
        refine ⟨rfl, ?_⟩
        rw [take_filter_snoc _ hone]
        refine ⟨_, rfl, _, rfl, rfl, _, rfl, ?_⟩
        by_cases he : one = word
        · subst he
          rw [decide_eq_true (show V.str one = V.str one from rfl)]
          refine iteF ⟨s9, ?_⟩
          rw [if_neg (by rw [decide_eq_false (fun z => z rfl)]; exact Bool.false_ne_true), List.append_nil]
          exact w9
        · rw [decide_eq_false (fun z : V.str one = V.str word => he (by injection z))]
          refine iteT ⟨_, rfl, _, w9, ?_, Same.own (q := D) (H1 := H9) s9 (mut_keep rfl) nD, ?_⟩
          · rw [List.length_map]
            refine Nat.lt_of_le_of_lt (List.length_filter_le _ _) (Nat.lt_of_le_of_lt (List.length_take_le' ..) (small1000 ?_))
            omega
          · rw [upd_same, if_pos (decide_eq_true he), List.map_append]
            rfl
      rintro H9 ⟨s9, wp9⟩
      rw [List.length_map, List.take_length] at wp9
      have mixed := fun zs => mix_ok (zs := zs) hnd ssn hnm ssm (by omega) ssl hwn
      have plen : (ns.filter fun x => decide (x ≠ word)).length ≤ 20 := Nat.le_trans (List.length_filter_le _ _) (by omega)
      generalize hpool : (ns.filter fun x => decide (x ≠ word)) = pool at mixed wp9 plen
      have B9 := B8.same s9
      have npD : p ≠ D := B8.ne nD
      have wa9 := s9 _ _ wa8
      have wl9 := s9 _ _ wl8
      have wd9 := s9 _ _ wd8
      have fa9 := hfa.same s9
      -- wide
      refine ⟨by show 5 ≤ sizeLine; decide, fun l1 n1 => ⟨_, rfl, ?_⟩⟩
      refine pick_menu [V.int (0 : Nat), V.int (1 : Nat), V.int (1 : Nat), V.int (2 : Nat), V.int (4 : Nat)] B9 (by omega) n1 rfl (by decide) (by decide) fun wide H10 hwide B10 k10 => ?_
      obtain ⟨wd10, rfl, hwd⟩ : ∃ j : Nat, wide = .int j ∧ j ≤ 4 := by
        simp only [List.mem_cons, List.not_mem_nil, or_false] at hwide
        rcases hwide with rfl | rfl | rfl | rfl | rfl
        · exact ⟨0, rfl, by decide⟩
        · exact ⟨1, rfl, by decide⟩
        · exact ⟨1, rfl, by decide⟩
        · exact ⟨2, rfl, by decide⟩
        · exact ⟨4, rfl, by decide⟩
      -- musts
      refine ⟨_, rfl, _, rfl, _, rfl, _, rfl, ?_⟩
      refine take_of (z := 12) B10 (by decide) (by decide) (by omega) fun r11 H11 a11 b11 B11 k11 => ?_
      have kk11 := k10.trans k11
      refine ⟨rfl, .inr ⟨_, rfl, _, rfl, a, _, rfl, SqL.of (kk11 _ _ wa9 npa.symm), fun c1 n12 => ?_⟩⟩
      obtain ⟨m1, hm1⟩ := cutV_bit ss (decide (V.int r11 = V.int 0))
      rw [hm1]
      generalize hE12 : upd H11 c1 _ = H12
      have wc12 := new_at hE12
      have s12 := new_same hE12 n12
      have kk12 := kk11.same s12
      refine ⟨D, c1, _, _, rfl, rfl, kk12 _ _ wp9 npD.symm, wc12, by rw [List.length_map, List.length_map, List.length_take]; exact Nat.le_of_lt (small1000 (by omega)), fun c2 n13 => ?_⟩
      rw [← List.map_append]
      generalize hE13 : upd H12 c2 _ = H13
      have wc13 := new_at hE13
      have kk13 := kk12.same (new_same hE13 n13)
      have B13 := (B11.same s12).same (new_same hE13 n13)
      obtain ⟨x1, x2, x3, x4⟩ := mixed (ss.take m1) (List.take_sublist _ _)
      refine ⟨_, rfl, p, c2, wd10, _, _, rfl, B13, by omega, by omega, SqL.of wc13, ((B11.same s12).ne n13).symm, x1, x2, x3, fun musts t1 H14 u1 u2 u3 nt1 wt1 B14 k14 => ?_⟩
      have kk14 := kk13.trans k14
      have npt1 : t1 ≠ p := fun e => by
        rw [e] at wt1
        exact B14.notTup _ wt1
      have hmusts : ∀ x ∈ musts, (x ∈ ns ∨ x ∈ ss) ∧ x ≠ word := fun x hx => x4 x (u2 x hx)
      -- many
      refine ⟨by show 8 ≤ sizeLine; decide, fun l2 n2 => ⟨_, rfl, ?_⟩⟩
      refine pick_menu [V.int (0 : Nat), V.int (1 : Nat), V.int (1 : Nat), V.int (2 : Nat), V.int (2 : Nat), V.int (3 : Nat), V.int (3 : Nat), V.int (8 : Nat)] B14 (by omega) n2 rfl (by decide) (by decide) fun wide2 H18 hwide2 B18 k18 => ?_
      obtain ⟨wd18, rfl, hwd18⟩ : ∃ j : Nat, wide2 = .int j ∧ j ≤ 8 := by
        simp only [List.mem_cons, List.not_mem_nil, or_false] at hwide2
        rcases hwide2 with rfl | rfl | rfl | rfl | rfl | rfl | rfl | rfl
        · exact ⟨0, rfl, by decide⟩
        · exact ⟨1, rfl, by decide⟩
        · exact ⟨1, rfl, by decide⟩
        · exact ⟨2, rfl, by decide⟩
        · exact ⟨2, rfl, by decide⟩
        · exact ⟨3, rfl, by decide⟩
        · exact ⟨3, rfl, by decide⟩
        · exact ⟨8, rfl, by decide⟩
      -- likes
      refine ⟨_, rfl, _, rfl, _, rfl, _, rfl, ?_⟩
      refine take_of (z := 3) B18 (by decide) (by decide) (by omega) fun r15 H15 a15 b15 B15 k15b => ?_
      have k15 := k18.trans k15b
      have kk15 := kk14.trans k15
      refine ⟨rfl, .inr ⟨_, rfl, _, rfl, a, _, rfl, SqL.of (kk15 _ _ wa9 npa.symm), fun c3 n16 => ?_⟩⟩
      obtain ⟨m2, hm2⟩ := cutV_bit ss (decide (V.int r15 = V.int 0))
      rw [hm2]
      generalize hE16 : upd H15 c3 _ = H16
      have wc16 := new_at hE16
      have s16 := new_same hE16 n16
      have kk16 := kk15.same s16
      refine ⟨D, c3, _, _, rfl, rfl, kk16 _ _ wp9 npD.symm, wc16, by rw [List.length_map, List.length_map, List.length_take]; exact Nat.le_of_lt (small1000 (by omega)), fun c4 n17 => ?_⟩
      rw [← List.map_append]
      generalize hE17 : upd H16 c4 _ = H17
      have wc17 := new_at hE17
      have s17 := new_same hE17 n17
      have kk17 := kk16.same s17
      have B17 := (B15.same s16).same s17
      have np4 : p ≠ c4 := (B15.same s16).ne n17
      obtain ⟨x5, x6, x7, x8⟩ := mixed (ss.take m2) (List.take_sublist _ _)
      refine ⟨_, rfl, p, c4, wd18, _, _, rfl, B17, by omega, by omega, SqL.of wc17, np4.symm, x5, x6, x7, fun likes t2 H19 u4 u5 u6 nt2 wt2 B19 k19 => ?_⟩
      have kk19 := kk17.trans k19
      have kl19 : Kp p H14 H19 := ((k15.same s16).same s17).trans k19
      have npt2 : t2 ≠ p := fun e => by
        rw [e] at wt2
        exact B19.notTup _ wt2
      have hlikes : ∀ x ∈ likes, (x ∈ ns ∨ x ∈ ss) ∧ x ≠ word := fun x hx => x8 x (u5 x hx)
      have wt1b := kl19 _ _ wt1 npt1
      -- foes
      refine ⟨_, rfl, _, rfl, _, rfl, _, rfl, a, _, rfl, SqL.of (kk19 _ _ wa9 npa.symm), fun c5 n20 => ?_⟩
      rw [show cutV (ss.map V.str) none (some 1) = (ss.take 1).map V.str from cutV_strs ss 1]
      generalize hE20 : upd H19 c5 _ = H20
      have wc20 := new_at hE20
      have s20 := new_same hE20 n20
      have kk20 := kk19.same s20
      refine ⟨D, c5, _, _, rfl, rfl, kk20 _ _ wp9 npD.symm, wc20, by rw [List.length_map, List.length_map, List.length_take]; exact Nat.le_of_lt (small1000 (by omega)), fun c6 n21 => ?_⟩
      rw [← List.map_append]
      generalize hE21 : upd H20 c6 _ = H21
      have wc21 := new_at hE21
      have s21 := new_same hE21 n21
      have B21 := (B19.same s20).same s21
      have np6 : p ≠ c6 := (B19.same s20).ne n21
      obtain ⟨x9, x10, x11, x12⟩ := mixed (ss.take 1) (List.take_sublist _ _)
      refine ⟨by show 4 ≤ sizeLine; decide, fun l3 n3 => ⟨_, rfl, ?_⟩⟩
      refine pick_menu [V.int (0 : Nat), V.int (0 : Nat), V.int (1 : Nat), V.int (2 : Nat)] B21 (by omega) n3 rfl (by decide) (by decide) fun wide3 H22 hwide3 B22 k22 => ?_
      obtain ⟨wd22, rfl, hwd22⟩ : ∃ j : Nat, wide3 = .int j ∧ j ≤ 2 := by
        simp only [List.mem_cons, List.not_mem_nil, or_false] at hwide3
        rcases hwide3 with rfl | rfl | rfl | rfl
        · exact ⟨0, rfl, by decide⟩
        · exact ⟨0, rfl, by decide⟩
        · exact ⟨1, rfl, by decide⟩
        · exact ⟨2, rfl, by decide⟩
      obtain ⟨wd23, e23, hwd23⟩ : ∃ j : Nat, ((wd22 : Nat) : Int) * (if (!loose) = true then 1 else 0) = (j : Int) ∧ j ≤ 2 := by
        cases loose
        · exact ⟨wd22, Int.mul_one _, hwd22⟩
        · exact ⟨0, Int.mul_zero _, by decide⟩
      refine ⟨_, rfl, _, rfl, .inr ⟨_, rfl, _, _, rfl, rfl, cmul_b, ?_⟩⟩
      refine ⟨p, c6, wd23, _, _, (by show [V.ref p, V.ref c6, V.int _] = _; rw [e23]), B22, by omega, by omega, SqL.of (k22 _ _ wc21 np6.symm), np6.symm, x9, x10, x11, fun foes t3 H24 u7 u8 u9 nt3 wt3 B24 k24 => ?_⟩
      have kl24 : Kp p H19 H24 := (((Kp.of s20).same s21).trans k22).trans k24
      have kk24 := kk19.trans kl24
      have npt3 : t3 ≠ p := fun e => by
        rw [e] at wt3
        exact B24.notTup _ wt3
      have hfoes : ∀ x ∈ foes, (x ∈ ns ∨ x ∈ ss) ∧ x ≠ word := fun x hx => x12 x (u8 x hx)
      have wt1c := kl24 _ _ wt1b npt1
      have wt2c := kl24 _ _ wt2 npt2
      -- elders
      refine ⟨_, rfl, _, rfl, _, rfl, D, a, _, _, rfl, rfl, kk24 _ _ wp9 npD.symm, kk24 _ _ wa9 npa.symm, by rw [List.length_map, List.length_map]; exact Nat.le_of_lt (small1000 (by omega)), fun c7 n25 => ?_⟩
      rw [← List.map_append]
      generalize hE25 : upd H24 c7 _ = H25
      have wc25 := new_at hE25
      have s25 := new_same hE25 n25
      have np7 : p ≠ c7 := B24.ne n25
      obtain ⟨x13, x14, x15, x16⟩ := mixed ss (List.Sublist.refl _)
      refine ⟨by show 4 ≤ sizeLine; decide, fun l4 n4 => ⟨_, rfl, ?_⟩⟩
      refine pick_menu [V.int (0 : Nat), V.int (1 : Nat), V.int (2 : Nat), V.int (8 : Nat)] (B24.same s25) (by omega) n4 rfl (by decide) (by decide) fun wide4 H26 hwide4 B26 k26 => ?_
      obtain ⟨wd26, rfl, hwd26⟩ : ∃ j : Nat, wide4 = .int j ∧ j ≤ 8 := by
        simp only [List.mem_cons, List.not_mem_nil, or_false] at hwide4
        rcases hwide4 with rfl | rfl | rfl | rfl
        · exact ⟨0, rfl, by decide⟩
        · exact ⟨1, rfl, by decide⟩
        · exact ⟨2, rfl, by decide⟩
        · exact ⟨8, rfl, by decide⟩
      refine ⟨p, c7, wd26, _, _, rfl, B26, by omega, by omega, SqL.of (k26 _ _ wc25 np7.symm), np7.symm, x13, x14, x15, fun elders t4 H27 u10 u11 u12 nt4 wt4 B27 k27 => ?_⟩
      have kl27 : Kp p H24 H27 := ((Kp.of s25).trans k26).trans k27
      have kk27 := kk24.trans kl27
      have npt4 : t4 ≠ p := fun e => by
        rw [e] at wt4
        exact B27.notTup _ wt4
      have helders : ∀ x ∈ elders, (x ∈ ns ∨ x ∈ ss) ∧ x ≠ word := fun x hx => x16 x (u11 x hx)
      have wt1d := kl27 _ _ wt1c npt1
      have wt2d := kl27 _ _ wt2c npt2
      have wt3d := kl27 _ _ wt3 npt3
      -- sort
      refine ⟨by show 5 ≤ sizeLine; decide, fun l5 n5 => ⟨_, rfl, ?_⟩⟩
      refine pick_menu [V.str (Str.ofString "work"), V.str (Str.ofString "work"), V.str (Str.ofString "work"), V.str (Str.ofString "goal"), V.str (Str.ofString "door")] B27 (by omega) n5 rfl (by decide) (by decide) fun sortV H28 hsort B28 k28 => ?_
      obtain ⟨sort, rfl, hsort'⟩ : ∃ z : Str, sortV = .str z ∧ (z = Str.ofString "work" ∨ z = Str.ofString "goal" ∨ z = Str.ofString "door") := by
        simp only [List.mem_cons, List.not_mem_nil, or_false] at hsort
        rcases hsort with rfl | rfl | rfl | rfl | rfl
        · exact ⟨_, rfl, .inl rfl⟩
        · exact ⟨_, rfl, .inl rfl⟩
        · exact ⟨_, rfl, .inl rfl⟩
        · exact ⟨_, rfl, .inr (.inl rfl)⟩
        · exact ⟨_, rfl, .inr (.inr rfl)⟩
      have kk28 := kk27.trans k28
      have kl28 := k28
      -- goal
      refine ⟨fun v H' => Bag (n + 300 + 100 * i + 61) H' p ∧ Kp p H28 H' ∧ ∃ g : Option Str, v = optV g ∧ (∀ x ∈ g.toList, (x ∈ ns ∨ x ∈ ss) ∧ x ≠ word) ∧ (sort = Str.ofString "door" → g ≠ none) ∧ (sort ≠ Str.ofString "door" → g = none), ?_, ?_⟩
      · refine ⟨_, rfl, rfl, _, rfl, ?_⟩
        by_cases hdoor : sort = Str.ofString "door"
        · subst hdoor
          refine iteYd rfl ?_
          have wp28 := kk28 _ _ wp9 npD.symm
          refine ⟨_, rfl, _, rfl, D, a, _, _, rfl, rfl, wp28, kk28 _ _ wa9 npa.symm, by rw [List.length_map, List.length_map]; exact Nat.le_of_lt (small1000 (by omega)), fun c8 n29 => ?_⟩
          rw [← List.map_append]
          generalize hE29 : upd H28 c8 _ = H29
          have wc29 := new_at hE29
          have s29 := new_same hE29 n29
          have np8 : p ≠ c8 := B28.ne n29
          refine ⟨_, rfl, _, rfl, D, _, rfl, .inl (SqL.of (s29 _ _ wp28)), _, _, rfl, rfl, ?_⟩
          refine take_of (z := ((pool.map V.str).length : Int) + 1) (B28.same s29) (by omega) (by rw [List.length_map]; omega) (by omega) fun r30 H30 a30 b30 B30 k30 => ?_
          rw [List.length_map] at b30
          obtain ⟨z, hz, ez⟩ := menu_str (zs := pool ++ ss) a30 (by rw [List.length_append]; omega)
          exact ⟨c8, _, _, _, rfl, rfl, SqL.of (k30 _ _ wc29 np8.symm), ez, B30.le (by omega), (Kp.of s29).trans k30, some z, rfl, (fun x hx => by cases List.mem_singleton.mp hx; exact x16 _ hz), (fun _ e => nomatch e), (fun z => absurd rfl z)⟩
        · refine iteNd (fun z => hdoor (by injection z)) ?_
          exact ⟨B28.le (by omega), Kp.refl _ _, none, rfl, (fun x hx => nomatch hx), (fun z => absurd z hdoor), (fun _ => rfl)⟩
      rintro vg H29 ⟨B29, k29, goal, rfl, hgoal, hg1, hg2⟩
      have kl29 := kl28.trans k29
      -- five
      refine ⟨fun v H' => Bag (n + 300 + 100 * i + 80) H' p ∧ Kp p H29 H' ∧ ∃ o, FiveAt H' v o, ?_, ?_⟩
      · refine ⟨_, rfl, ?_⟩
        refine take_of (z := 3) B29 (by decide) (by decide) (by omega) fun r30 H30 a30 b30 B30 k30 => ?_
        refine ⟨_, _, rfl, rfl, _, rfl, ?_⟩
        refine ite2 (fun _ => ?_) (fun _ => ?_)
        · exact ⟨_, rfl, p, _, rfl, B30, by omega, fun f m t b s v H' F nv wv B' k' => ⟨B'.le (by omega), k30.trans k', some (f, m, t, b, s), v, rfl, wv, F⟩⟩
        · exact ⟨B30.le (by omega), k30, none, rfl⟩
      rintro vf H30 ⟨B30, k30, five, hfive⟩
      have kl30 := kl29.trans k30
      have kk30 := (kk28.trans k29).trans k30
      -- found[word] = (...)
      refine ⟨_, rfl, _, rfl, _, rfl, _, rfl, _, rfl, _, rfl, _, rfl, by show 7 ≤ sizeLine; decide, fun tt ntt => ?_⟩
      generalize hE31 : upd H30 tt _ = H31
      have wt31 := new_at hE31
      have s31 := new_same hE31 ntt
      have wd31 := s31 _ _ (kk30 _ _ wd9 npd.symm)
      have fa31 := (fa9.keep kk30 B9.notTup).same s31
      have hfree : word ∉ us.map (·.1) := by
        rw [hus]
        intro hm
        obtain ⟨j, hj, e⟩ := List.getElem_of_mem hm
        rw [List.length_take] at hj
        rw [List.getElem_take] at e
        have hji : j = i := by
          have h1 : ns[i]? = some word := hword
          have h2 : ns[j]? = some word := by rw [List.getElem?_eq_getElem (by omega), e]
          exact (List.getElem?_inj (by omega) hnd).mp (h2.trans h1.symm)
        omega
      have hul : kvs.length ≤ 20 := by
        have h1 := hfa.len
        have h2 := congrArg List.length hus
        rw [List.length_map, List.length_take] at h2
        omega
      refine ⟨_, rfl, _, rfl, d, _, rfl, DPut.k (k := Sum.inr word) wd31 (small1000 (by omega)), ?_⟩
      rw [putK_new _ (hfa.free hfree)]
      generalize hE32 : upd H31 d _ = H32
      have wd32 := new_at hE32
      have m32 := mut_keep hE32
      have nt32 := NotTup.dK wd31
      refine ⟨((B30.same s31).keep m32 npd).le (by omega), (((k8.same s9).trans kk30).same s31).own m32 ndH, us ++ [(word, ⟨sort, musts, likes, foes, elders, goal, five⟩)], _, _, _, _, _, _, _, _, _, _, _, _, _, ?_, ?_, .snoc (fa31.keep m32 nt32) ?_, wd32, m32 _ _ (s31 _ _ (kk30 _ _ wl9 npl)) nld, m32 _ _ (s31 _ _ (kk30 _ _ wa9 npa.symm)) nad, rfl⟩
      · rw [List.map_append, hus, List.take_add_one, hword]
        rfl
      · intro q hq
        rcases List.mem_append.mp hq with hq | hq
        · exact huo q hq
        · rw [List.mem_singleton.mp hq]
          refine ⟨hsort', u1, u4, u7, u10, by show musts.length ≤ 8; omega, by show likes.length ≤ 8; omega, by show foes.length ≤ 8; omega, by show elders.length ≤ 8; omega, fun x hx => ?_, hg1, hg2⟩
          rcases List.mem_append.mp hx with hx | hx
          · rcases List.mem_append.mp hx with hx | hx
            · rcases List.mem_append.mp hx with hx | hx
              · rcases List.mem_append.mp hx with hx | hx
                · exact hmusts x hx
                · exact hlikes x hx
              · exact hfoes x hx
            · exact helders x hx
          · exact hgoal x hx
      · refine FactAt.keep (FactAt.same (H := H31) ?_ (Same.refl _)) m32 nt32
        exact ⟨tt, t1, t2, t3, t4, vf, rfl, wt31, s31 _ _ (kl30 _ _ wt1d npt1), s31 _ _ (kl30 _ _ wt2d npt2), s31 _ _ (kl30 _ _ wt3d npt3), s31 _ _ (kl30 _ _ wt4 npt4), hfive.same s31⟩
    · rintro σ H8 ⟨B8, k8, us, kvs, y6, y7, y8, y9, y10, y11, y12, y13, y14, y15, y16, y17, hus, huo, hfa, wd8, wl8, wa8, rfl⟩
      rw [List.length_map] at B8 hus
      rw [List.take_length] at hus
      exact ⟨_, rfl, q ns ss us kvs d H8 hus hnd hnm (by omega) (by omega) ssn ssm ssl huo hfa ndH wd8 (B8.le (by omega)) k8⟩

-- SPLIT
/-! ### a unit -/
abbrev uFs (w k n x b a o r : V) : List (Str × V) := [("name", w), ("kind", k), ("needs", n), ("wants", x), ("bars", b), ("after", a), ("opens", o), ("rule", r)]
def sp_Unit_init (K : PySem.W.Frag) : Sp := fun vs H Q _ => ∃ (p dx : Addr) (v1 v2 v3 v4 v5 v6 v7 v8 : V), vs = [.ref p, v1, v2, v3, v4, v5, v6, v7, v8] ∧ H p = some (.ins (He.ga K "Unit") dx []) ∧
  ∀ H', H' p = some (.ins (He.ga K "Unit") dx (uFs v1 v2 v3 v4 v5 v6 v7 v8)) → Kp p H H' → Q .non H'
theorem ok_Unit_init (T : Txt K mg) : FnOk P w K mg base CX0 1 (He.fAd K ("Unit", some "__init__")) T.d_Unit_init ["self", "name", "kind", "needs", "wants", "bars", "after", "opens", "rule"] (sp_Unit_init K) := by
  refine T.F_Unit_init.ok sc_Unit_init (fun vs H Q E h => ?_) (fun cdv A outer s H vs Q E hr h => ?_)
  · obtain ⟨p, dx, v1, v2, v3, v4, v5, v6, v7, v8, rfl, _⟩ := h
    rfl
  · obtain ⟨p, dx, v1, v2, v3, v4, v5, v6, v7, v8, rfl, hp, q⟩ := h
    refine ⟨_, PSs.nox (pss_cons (ps_fld (pv 0) (pv 1) rfl)
      (pss_cons (ps_fld (pv 0) (pv 2) rfl)
      (pss_cons (ps_fld (pv 0) (pv 3) rfl)
      (pss_cons (ps_fld (pv 0) (pv 4) rfl)
      (pss_cons (ps_fld (pv 0) (pv 5) rfl)
      (pss_cons (ps_fld (pv 0) (pv 6) rfl)
      (pss_cons (ps_fld (pv 0) (pv 7) rfl)
      (pss_one (ps_fld (pv 0) (pv 8) rfl))))))))), ?_⟩
    refine ⟨_, rfl, _, rfl, p, _, dx, [], rfl, hp, T.cl_Unit, T.na_Unit_name, (by show 0 < 1000; decide), ?_⟩
    refine ⟨_, rfl, _, rfl, p, _, dx, _, rfl, upd_same, T.cl_Unit, T.na_Unit_kind, (by show 1 < 1000; decide), ?_⟩
    refine ⟨_, rfl, _, rfl, p, _, dx, _, rfl, upd_same, T.cl_Unit, T.na_Unit_needs, (by show 2 < 1000; decide), ?_⟩
    refine ⟨_, rfl, _, rfl, p, _, dx, _, rfl, upd_same, T.cl_Unit, T.na_Unit_wants, (by show 3 < 1000; decide), ?_⟩
    refine ⟨_, rfl, _, rfl, p, _, dx, _, rfl, upd_same, T.cl_Unit, T.na_Unit_bars, (by show 4 < 1000; decide), ?_⟩
    refine ⟨_, rfl, _, rfl, p, _, dx, _, rfl, upd_same, T.cl_Unit, T.na_Unit_after, (by show 5 < 1000; decide), ?_⟩
    refine ⟨_, rfl, _, rfl, p, _, dx, _, rfl, upd_same, T.cl_Unit, T.na_Unit_opens, (by show 6 < 1000; decide), ?_⟩
    refine ⟨_, rfl, _, rfl, p, _, dx, _, rfl, upd_same, T.cl_Unit, T.na_Unit_rule, (by show 7 < 1000; decide), ?_⟩
    refine q _ upd_same fun c o h n => ?_
    rw [upd_ne n, upd_ne n, upd_ne n, upd_ne n, upd_ne n, upd_ne n, upd_ne n, upd_ne n]
    exact h
/-- the rule of a unit, or None -/
def RuleOpt (K : PySem.W.Frag) (H : Hp) : V → Option (Int × Int × Int × Int × Int) → Prop
  | v, none => v = .non
  | v, some (f, m, t, b, s) => ∃ r, v = .ref r ∧ RuleAt K H r f m t b s
theorem RuleOpt.same {H H' : Hp} {v : V} {o : Option (Int × Int × Int × Int × Int)} (h : RuleOpt K H v o) (s : Same H H') : RuleOpt K H' v o := by
  cases o with
  | none => exact h
  | some o =>
    obtain ⟨f, m, t, b, s'⟩ := o
    obtain ⟨p, e, hp⟩ := h
    exact ⟨p, e, hp.same s⟩
theorem RuleOpt.keep {H H' : Hp} {v : V} {o : Option (Int × Int × Int × Int × Int)} {q : Addr} (h : RuleOpt K H v o) (k : Kp q H H') (n : ∀ C dx fs, H q ≠ some (.ins C dx fs)) : RuleOpt K H' v o := by
  cases o with
  | none => exact h
  | some o =>
    obtain ⟨f, m, t, b, s'⟩ := o
    obtain ⟨p, e, dx, hp⟩ := h
    exact ⟨p, e, dx, k _ _ hp fun z => n _ _ _ (z ▸ hp)⟩
/-- a unit stands at a -/
def UnitAt (K : PySem.W.Frag) (H : Hp) (p : Addr) (w : Str) (u : UF) : Prop := ∃ (dx n x b a : Addr) (r : V), H p = some (.ins (He.ga K "Unit") dx (uFs (.str w) (.str u.kind) (.ref n) (.ref x) (.ref b) (.ref a) (optV u.opens) r)) ∧
  SqT K H n (u.needs.map V.str) ∧ SqT K H x (u.wants.map V.str) ∧ SqT K H b (u.bars.map V.str) ∧ SqT K H a (u.after.map V.str) ∧ RuleOpt K H r u.five
/-- the seven facts, whatever way their tuples stand -/
def FactS (K : PySem.W.Frag) (H : Hp) (v : V) (u : UF) : Prop := ∃ (t n x b a : Addr) (g : V), v = .ref t ∧ SqT K H t [.str u.kind, .ref n, .ref x, .ref b, .ref a, optV u.opens, g] ∧
  SqT K H n (u.needs.map V.str) ∧ SqT K H x (u.wants.map V.str) ∧ SqT K H b (u.bars.map V.str) ∧ SqT K H a (u.after.map V.str) ∧ FiveAt H g u.five
theorem FactAt.s {H : Hp} {v : V} {u : UF} (h : FactAt H v u) : FactS K H v u := by
  obtain ⟨t, n, x, b, a, g, e, h0, h1, h2, h3, h4, h5⟩ := h
  exact ⟨t, n, x, b, a, g, e, .of h0, .of h1, .of h2, .of h3, .of h4, h5⟩
def sp_law_unit (K : PySem.W.Frag) : Sp := fun vs H Q _ => ∃ (w : Str) (d : Addr) (v : V) (u : UF), vs = [.str w, .ref d] ∧ DGet H d (.str w) (some v) ∧ FactS K H v u ∧
  ∀ p H', H p = none → Same H H' → UnitAt K H' p w u → Q (.ref p) H'
theorem ok_law_unit (T : Txt K mg) : FnOk P w K mg base CX0 4 (He.fAd K ("_law_unit", none)) T.d_law_unit ["_law_word", "_law_facts_here"] (sp_law_unit K) := by
  refine T.F_law_unit.ok sc_law_unit (fun vs H Q E h => ?_) (fun cdv A outer s H vs Q E hr h => ?_)
  · obtain ⟨w, d, v, u, rfl, _⟩ := h
    rfl
  · obtain ⟨w, d, v, u, rfl, hd, hF, q⟩ := h
    refine ⟨_, PSs.nox (pss_cons (ps_asg (pe_dget (hu_of hr) (pv 1) (pv 0) (fun _ _ => rfl)) (pg_tup rfl (pgs_cons (pg_name (i := 2) sc_law_unit.nd rfl (Or.inl rfl)) (pgs_cons (pg_name (i := 3) sc_law_unit.nd rfl (Or.inl rfl)) (pgs_cons (pg_name (i := 4) sc_law_unit.nd rfl (Or.inl rfl)) (pgs_cons (pg_name (i := 5) sc_law_unit.nd rfl (Or.inl rfl)) (pgs_cons (pg_name (i := 6) sc_law_unit.nd rfl (Or.inl rfl)) (pgs_cons (pg_name (i := 7) sc_law_unit.nd rfl (Or.inl rfl)) (pgs_cons (pg_name (i := 8) sc_law_unit.nd rfl (Or.inl rfl)) pgs_nil)))))))))
      (pss_cons (ps_set (i := 9) sc_law_unit.nd rfl (Or.inl rfl) (pe_mid (pe_ifExp (pt_cmpR op_isN (pv 8) pe_non (nomark _)) pe_non (pe_call (ok_law_rule T) (hr.mono (by decide)) (by rfl) T.m_law_rule T.F_law_rule.kp T.b_law_rule .nil pass0 (pa_cons (pv 8) pa_nil)))))
      (pss_one (ps_ret (pe_makeK T.mk_Unit (ok_Unit_init T) (hr.mono (by decide)) (by rfl) T.m_Unit T.kb_Unit_init_2_kind_needs_wants_bars_after_opens_rule.choose_spec pass0 (pa_cons (pv 0) pa_nil) (pk_cons (pv 2) (pk_cons (pv 3) (pk_cons (pv 4) (pk_cons (pv 5) (pk_cons (pv 6) (pk_cons (pv 7) (pk_cons (pv 9) pk_nil)))))))))))), ?_⟩
    obtain ⟨t, n, x, b, a, g, rfl, wt, wn, wx, wb, wa, hg⟩ := hF
    refine ⟨_, rfl, _, rfl, d, _, rfl, hd, t, _, rfl, wt, rfl, _, _, rfl, _, _, rfl, _, _, rfl, _, _, rfl, _, _, rfl, _, _, rfl, _, _, rfl, rfl, ?_⟩
    refine ⟨fun v H' => Same H H' ∧ RuleOpt K H' v u.five, ?_, ?_⟩
    · refine ⟨_, rfl, rfl, _, rfl, ?_⟩
      cases h5 : u.five with
      | none =>
        rw [h5] at hg
        cases (show g = .non from hg)
        exact iteYd rfl ⟨Same.refl _, rfl⟩
      | some o =>
        obtain ⟨f, m, tp, br, sn⟩ := o
        rw [h5] at hg
        obtain ⟨v5, rfl, w5, F⟩ := hg
        refine iteNd (fun z => nomatch z) ⟨_, rfl, v5, f, m, tp, br, sn, rfl, SqT.of w5, fun r H' nr s' hr => ⟨s', r, rfl, hr⟩⟩
    rintro rv H1 ⟨s1, hr⟩
    refine ⟨_, rfl, _, rfl, _, rfl, _, rfl, _, rfl, _, rfl, _, rfl, _, rfl, rfl, rfl, fun p dx np nd ne => ?_⟩
    refine ⟨p, dx, _, _, _, _, _, _, _, _, rfl, upd_same, fun H' wp kp => ⟨rfl, ?_⟩⟩
    have s2 : Same H1 H' := Same.made np nd fun b o e n => kp b o e n
    have s3 := s1.trans s2
    exact q p H' (s1.free np) s3 ⟨dx, n, x, b, a, rv, wp, tup_same s3 wn, tup_same s3 wx, tup_same s3 wb, tup_same s3 wa, RuleOpt.same hr s2⟩
theorem UnitAt.same {H H' : Hp} {p : Addr} {w : Str} {u : UF} (h : UnitAt K H p w u) (s : Same H H') : UnitAt K H' p w u := by
  obtain ⟨dx, n, x, b, a, r, h0, h1, h2, h3, h4, h5⟩ := h
  exact ⟨dx, n, x, b, a, r, s _ _ h0, tup_same s h1, tup_same s h2, tup_same s h3, tup_same s h4, h5.same s⟩
theorem UnitAt.keep {H H' : Hp} {p q : Addr} {w : Str} {u : UF} {n : Nat} (h : UnitAt K H p w u) (k : Kp q H H') (B : Bag n H q) : UnitAt K H' p w u := by
  obtain ⟨_, _, _, hq, _⟩ := B.ex
  have nt := NotTp.lst hq
  obtain ⟨dx, n, x, b, a, r, h0, h1, h2, h3, h4, h5⟩ := h
  exact ⟨dx, n, x, b, a, r, k _ _ h0 (fun e => by rw [e, hq] at h0; cases h0), k.tup nt h1, k.tup nt h2, k.tup nt h3, k.tup nt h4, h5.keep k fun C dx fs e => by rw [hq] at e; cases e⟩

-- SPLIT
/-! ### the shelf -/
/-- no instance with fields -/
def NotIns (H : Hp) (q : Addr) : Prop := ∀ C dx f fs, H q ≠ some (.ins C dx (f :: fs))
theorem NotIns.lst {H : Hp} {q : Addr} {xs : List V} (h : H q = some (.lst xs)) : NotIns H q := fun C dx f fs e => by rw [h] at e; cases e
theorem NotIns.dK {H : Hp} {q : Addr} {xs : List (Key × V)} (h : H q = some (.dK xs)) : NotIns H q := fun C dx f fs e => by rw [h] at e; cases e
theorem NotIns.new {H : Hp} {q C dx : Addr} (h : H q = some (.ins C dx [])) : NotIns H q := fun C' dx' f fs e => by rw [h] at e; cases e
theorem RuleOpt.keepN {H H' : Hp} {v : V} {o : Option (Int × Int × Int × Int × Int)} {q : Addr} (h : RuleOpt K H v o) (k : Kp q H H') (n : NotIns H q) : RuleOpt K H' v o := by
  cases o with
  | none => exact h
  | some o =>
    obtain ⟨f, m, t, b, s'⟩ := o
    obtain ⟨p, e, dx, hp⟩ := h
    exact ⟨p, e, dx, k _ _ hp fun z => n _ _ _ _ (z ▸ hp)⟩
theorem UnitAt.keepN {H H' : Hp} {p q : Addr} {w : Str} {u : UF} (h : UnitAt K H p w u) (k : Kp q H H') (nt : NotTp H q) (ni : NotIns H q) : UnitAt K H' p w u := by
  obtain ⟨dx, n, x, b, a, r, h0, h1, h2, h3, h4, h5⟩ := h
  exact ⟨dx, n, x, b, a, r, k _ _ h0 (fun e => ni _ _ _ _ (e ▸ h0)), k.tup nt h1, k.tup nt h2, k.tup nt h3, k.tup nt h4, h5.keepN k ni⟩
/-- a list of units -/
inductive ULs (K : PySem.W.Frag) (H : Hp) : List V → List (Str × UF) → Prop
  | nil : ULs K H [] []
  | cons {a : Addr} {w : Str} {u : UF} {xs : List V} {us : List (Str × UF)} (e : UnitAt K H a w u) (h : ULs K H xs us) : ULs K H (.ref a :: xs) ((w, u) :: us)
theorem ULs.same {H H' : Hp} {xs : List V} {us : List (Str × UF)} (h : ULs K H xs us) (s : Same H H') : ULs K H' xs us := by
  induction h with
  | nil => exact .nil
  | cons e _ ih => exact .cons (e.same s) ih
theorem ULs.keepN {H H' : Hp} {q : Addr} {xs : List V} {us : List (Str × UF)} (h : ULs K H xs us) (k : Kp q H H') (nt : NotTp H q) (ni : NotIns H q) : ULs K H' xs us := by
  induction h with
  | nil => exact .nil
  | cons e _ ih => exact .cons (e.keepN k nt ni) ih
theorem ULs.len {H : Hp} {xs : List V} {us : List (Str × UF)} (h : ULs K H xs us) : xs.length = us.length := by
  induction h with
  | nil => rfl
  | cons _ _ ih => rw [List.length_cons, List.length_cons, ih]
theorem ULs.get {H : Hp} {xs : List V} {us : List (Str × UF)} (h : ULs K H xs us) {i : Nat} {x : V} (e : xs[i]? = some x) : ∃ a w u, x = .ref a ∧ us[i]? = some (w, u) ∧ UnitAt K H a w u := by
  induction h generalizing i with
  | nil => simp at e
  | @cons a w u _ _ r _ ih =>
    cases i with
    | zero =>
      cases e
      exact ⟨a, w, u, rfl, rfl, r⟩
    | succ i => exact ih e
theorem ULs.app {H : Hp} {xs ys : List V} {us vs : List (Str × UF)} (h : ULs K H xs us) (g : ULs K H ys vs) : ULs K H (xs ++ ys) (us ++ vs) := by
  induction h with
  | nil => exact g
  | cons e _ ih => exact .cons e ih
abbrev UTab (K : PySem.W.Frag) (H : Hp) : List (Key × V) → List (Str × UF) → Prop := Tab fun v w u => ∃ a, v = .ref a ∧ UnitAt K H a w u
def ShelfAt (K : PySem.W.Frag) (H : Hp) (p : Addr) (us : List (Str × UF)) : Prop := ∃ (dx d : Addr) (kvs : List (Key × V)), H p = some (.ins (He.ga K "Shelf") dx [("by_name", .ref d)]) ∧ H d = some (.dK kvs) ∧ UTab K H kvs us
theorem ShelfAt.same {H H' : Hp} {p : Addr} {us : List (Str × UF)} (h : ShelfAt K H p us) (s : Same H H') : ShelfAt K H' p us := by
  obtain ⟨dx, d, kvs, h1, h2, h3⟩ := h
  exact ⟨dx, d, kvs, s _ _ h1, s _ _ h2, h3.imp fun v w u ⟨a, e, r⟩ => ⟨a, e, r.same s⟩⟩
theorem ShelfAt.keepL {H H' : Hp} {p q : Addr} {us : List (Str × UF)} {xs : List V} (h : ShelfAt K H p us) (k : Kp q H H') (hq : H q = some (.lst xs)) : ShelfAt K H' p us := by
  obtain ⟨dx, d, kvs, h1, h2, h3⟩ := h
  refine ⟨dx, d, kvs, k _ _ h1 (fun e => by rw [e, hq] at h1; cases h1), k _ _ h2 (fun e => by rw [e, hq] at h2; cases h2), h3.imp fun v w u ⟨a, e, r⟩ => ⟨a, e, r.keepN k (.lst hq) (.lst hq)⟩⟩
theorem ShelfAt.keepB {H H' : Hp} {p q : Addr} {us : List (Str × UF)} {n : Nat} (h : ShelfAt K H p us) (k : Kp q H H') (B : Bag n H q) : ShelfAt K H' p us := by
  obtain ⟨_, _, _, hq, _⟩ := B.ex
  exact h.keepL k hq
/-- names unlike, at most sixteen -/
structure Nms (us : List (Str × UF)) : Prop where
  nd : (us.map (·.1)).Nodup
  few : us.length ≤ 16
  nm : ∀ x ∈ us.map (·.1), Nm x
theorem Nms.len {us : List (Str × UF)} (n : Nms us) : (us.map (·.1)).length ≤ 16 := by rw [List.length_map]; exact n.few
def sp_Shelf_init (K : PySem.W.Frag) : Sp := fun vs H Q _ => ∃ (p dx l : Addr) (xs : List V) (us : List (Str × UF)), vs = [.ref p, .ref l] ∧ H p = some (.ins (He.ga K "Shelf") dx []) ∧ (SqL K H l xs ∨ SqT K H l xs) ∧ ULs K H xs us ∧ Nms us ∧
  ∀ H', ShelfAt K H' p us → Kp p H H' → Q .non H'
theorem ok_Shelf_init (T : Txt K mg) : FnOk P w K mg base CX0 1 (He.fAd K ("Shelf", some "__init__")) T.d_Shelf_init ["self", "units"] (sp_Shelf_init K) := by
  refine T.F_Shelf_init.ok sc_Shelf_init (fun vs H Q E h => ?_) (fun cdv A outer s H vs Q E hr h => ?_)
  · obtain ⟨p, dx, l, xs, us, rfl, _⟩ := h
    rfl
  · obtain ⟨p, dx, l, xs, us, rfl, hp, hl, hU, hN, q⟩ := h
    refine ⟨_, PSs.nox (pss_cons (ps_set (i := 2) sc_Shelf_init.nd rfl (Or.inl rfl) pe_dnewK)
      (pss_cons (ps_for PassesOwn.never rfl (UP.pi_or (pi_list (pv 1)) (pi_tup (pv 1))) (pg_name (i := 3) sc_Shelf_init.nd rfl (Or.inl rfl))
      (pss_cons (ps_if (PW.pt (pw_or (pt_cmp (pc_din (hu_of hr) (pe_fld (pv 3) rfl) (pv 2))) (pw_or1 (pt_cmpR op_eq (pe_callB (id := "len")  call_lenD (by rfl) T.n_len (by decide +kernel) (pa_cons (pv 2) pa_nil)) (pe_glob (v := .int 16) (by rfl) T.c_MOST.choose_spec ⟨_, rfl⟩) (nomark _)))))
      (pss_one ps_never)
      pss_nil)
      (pss_one (ps_dput (hu_of hr) (pv 2) (pe_fld (pv 3) rfl) (pv 3) rfl))))
      (pss_one (ps_fld (pv 0) (pv 2) rfl)))), ?_⟩
    refine fun d nd => ?_
    generalize hE1 : upd H d _ = H1
    have wd := new_at hE1
    have s1 := new_same hE1 nd
    have npd : p ≠ d := ne_some hp nd
    rcases hl with hl | hl
    · refine .inl ⟨_, rfl, l, rfl, ⟨_, SqL.ext hl s1⟩, for_list (xs := xs) (fun i σ H' => Same H H' ∧ (∃ kvs, H' d = some (.dK kvs) ∧ UTab K H' kvs (us.take i)) ∧ ∃ y : Option V, σ = [some (.ref p), some (.ref l), some (.ref d), y])
        ⟨s1, ⟨[], wd, .nil⟩, none, rfl⟩ (fun i σ H' _ h => SqL.ext hl h.1) ?_ ?_⟩
      · rintro i x σ H2 hi ⟨s2, ⟨kvs, wd2, ht⟩, y, rfl⟩
        obtain ⟨a, w, u, rfl, hu, hA⟩ := hU.get hi
        obtain ⟨dxu, n1, n2, n3, n4, r, ha, _⟩ := id (hA.same s2)
        have hlt : i < us.length := by
          rw [List.getElem?_eq_some_iff] at hu
          exact hu.1
        have hfree : w ∉ (us.take i).map (·.1) := fun hm => by
          obtain ⟨j, hj, e⟩ := List.getElem_of_mem hm
          rw [List.length_map, List.length_take] at hj
          have hn := hN.nd
          have e1 : (us.map (·.1))[i]? = some w := by rw [List.getElem?_map, hu]; rfl
          have e2 : (us.map (·.1))[j]? = some w := by
            rw [List.getElem?_map, List.getElem?_eq_getElem (by omega)]
            rw [List.getElem_map, List.getElem_take] at e
            rw [← e]
            rfl
          have := (List.getElem?_inj (by rw [List.length_map]; omega) hn).mp (e2.trans e1.symm)
          omega
        have few := hN.few
        have hkl : kvs.length = i := by
          rw [ht.len, List.length_take]
          omega
        have hnone := ht.free hfree
        -- if unit.name in by_name or len(by_name) == MOST
        refine ⟨_, rfl, a, _, dxu, _, _, rfl, ha, T.cl_Unit, T.na_Unit_name, rfl, _, rfl, d, _, rfl, DGet.k (k := Sum.inr w) wd2, ?_⟩
        rw [hnone]
        refine ⟨_, rfl, iteF ?_⟩
        refine ⟨_, rfl, d, kvs, rfl, wd2, rfl, _, rfl, ?_⟩
        rw [decide_eq_false (show ¬ V.int (kvs.length : Int) = V.int 16 from fun z => by injection z with z; omega)]
        refine iteF ?_
        -- by_name[unit.name] = unit
        refine ⟨_, rfl, _, rfl, _, rfl, a, _, dxu, _, _, rfl, ha, T.cl_Unit, T.na_Unit_name, rfl, d, _, rfl, DPut.k (k := Sum.inr w) wd2 (small1000 (by omega)), ?_⟩
        rw [putK_new _ hnone]
        generalize hE3 : upd H2 d _ = H3
        have wd3 := new_at hE3
        have m3 := mut_keep hE3
        refine ⟨Same.own s2 m3 nd, ⟨_, wd3, ?_⟩, _, rfl⟩
        rw [take_snoc hu]
        exact (ht.imp fun v w u ⟨a, e, r⟩ => ⟨a, e, r.keepN m3 (.dK wd2) (.dK wd2)⟩).app (.cons ⟨a, rfl, (hA.same s2).keepN m3 (.dK wd2) (.dK wd2)⟩ .nil)
      · rintro σ H2 ⟨s2, ⟨kvs, wd2, ht⟩, y, rfl⟩
        rw [hU.len, List.take_length] at ht
        have hp2 := s2 _ _ hp
        refine ⟨_, rfl, _, rfl, p, _, dx, [], rfl, hp2, T.cl_Shelf, T.na_Shelf_by_name, (by show 0 < 1000; decide), ?_⟩
        generalize hE3 : upd H2 p _ = H3
        have m3 := mut_keep hE3
        exact q H3 ⟨dx, d, kvs, new_at hE3, m3 _ _ wd2 npd.symm, ht.imp fun v w u ⟨a, e, r⟩ => ⟨a, e, r.keepN m3 (.ins hp2) (.new hp2)⟩⟩ ((Kp.of s2).trans m3)
    · refine .inr ⟨_, rfl, l, rfl, ⟨_, tup_same s1 hl⟩, for_tup (xs := xs) (fun i σ H' => Same H H' ∧ (∃ kvs, H' d = some (.dK kvs) ∧ UTab K H' kvs (us.take i)) ∧ ∃ y : Option V, σ = [some (.ref p), some (.ref l), some (.ref d), y])
        ⟨s1, ⟨[], wd, .nil⟩, none, rfl⟩ (fun i σ H' _ h => tup_same h.1 hl) ?_ ?_⟩
      · rintro i x σ H2 hi ⟨s2, ⟨kvs, wd2, ht⟩, y, rfl⟩
        obtain ⟨a, w, u, rfl, hu, hA⟩ := hU.get hi
        obtain ⟨dxu, n1, n2, n3, n4, r, ha, _⟩ := id (hA.same s2)
        have hlt : i < us.length := by
          rw [List.getElem?_eq_some_iff] at hu
          exact hu.1
        have hfree : w ∉ (us.take i).map (·.1) := fun hm => by
          obtain ⟨j, hj, e⟩ := List.getElem_of_mem hm
          rw [List.length_map, List.length_take] at hj
          have hn := hN.nd
          have e1 : (us.map (·.1))[i]? = some w := by rw [List.getElem?_map, hu]; rfl
          have e2 : (us.map (·.1))[j]? = some w := by
            rw [List.getElem?_map, List.getElem?_eq_getElem (by omega)]
            rw [List.getElem_map, List.getElem_take] at e
            rw [← e]
            rfl
          have := (List.getElem?_inj (by rw [List.length_map]; omega) hn).mp (e2.trans e1.symm)
          omega
        have few := hN.few
        have hkl : kvs.length = i := by
          rw [ht.len, List.length_take]
          omega
        have hnone := ht.free hfree
        -- if unit.name in by_name or len(by_name) == MOST
        refine ⟨_, rfl, a, _, dxu, _, _, rfl, ha, T.cl_Unit, T.na_Unit_name, rfl, _, rfl, d, _, rfl, DGet.k (k := Sum.inr w) wd2, ?_⟩
        rw [hnone]
        refine ⟨_, rfl, iteF ?_⟩
        refine ⟨_, rfl, d, kvs, rfl, wd2, rfl, _, rfl, ?_⟩
        rw [decide_eq_false (show ¬ V.int (kvs.length : Int) = V.int 16 from fun z => by injection z with z; omega)]
        refine iteF ?_
        -- by_name[unit.name] = unit
        refine ⟨_, rfl, _, rfl, _, rfl, a, _, dxu, _, _, rfl, ha, T.cl_Unit, T.na_Unit_name, rfl, d, _, rfl, DPut.k (k := Sum.inr w) wd2 (small1000 (by omega)), ?_⟩
        rw [putK_new _ hnone]
        generalize hE3 : upd H2 d _ = H3
        have wd3 := new_at hE3
        have m3 := mut_keep hE3
        refine ⟨Same.own s2 m3 nd, ⟨_, wd3, ?_⟩, _, rfl⟩
        rw [take_snoc hu]
        exact (ht.imp fun v w u ⟨a, e, r⟩ => ⟨a, e, r.keepN m3 (.dK wd2) (.dK wd2)⟩).app (.cons ⟨a, rfl, (hA.same s2).keepN m3 (.dK wd2) (.dK wd2)⟩ .nil)
      · rintro σ H2 ⟨s2, ⟨kvs, wd2, ht⟩, y, rfl⟩
        rw [hU.len, List.take_length] at ht
        have hp2 := s2 _ _ hp
        refine ⟨_, rfl, _, rfl, p, _, dx, [], rfl, hp2, T.cl_Shelf, T.na_Shelf_by_name, (by show 0 < 1000; decide), ?_⟩
        generalize hE3 : upd H2 p _ = H3
        have m3 := mut_keep hE3
        exact q H3 ⟨dx, d, kvs, new_at hE3, m3 _ _ wd2 npd.symm, ht.imp fun v w u ⟨a, e, r⟩ => ⟨a, e, r.keepN m3 (.ins hp2) (.new hp2)⟩⟩ ((Kp.of s2).trans m3)
def sp_Shelf_names (K : PySem.W.Frag) : Sp := fun vs H Q _ => ∃ (p : Addr) (us : List (Str × UF)), vs = [.ref p] ∧ ShelfAt K H p us ∧ Nms us ∧
  ∀ l H', H l = none → Same H H' → H' l = some (.lst ((srt (us.map (·.1))).map V.str)) → Q (.ref l) H'
theorem ok_Shelf_names (T : Txt K mg) : FnOk P w K mg base CX0 1 (He.fAd K ("Shelf", some "names")) T.d_Shelf_names ["self"] (sp_Shelf_names K) := by
  refine T.F_Shelf_names.ok sc_Shelf_names (fun vs H Q E h => ?_) (fun cdv A outer s H vs Q E hr h => ?_)
  · obtain ⟨p, us, rfl, _⟩ := h
    rfl
  · obtain ⟨p, us, rfl, hS, hN, q⟩ := h
    refine ⟨_, PSs.nox (pss_one (ps_ret (pe_callB (id := "sorted")  (call_sortedD rfl) (by rfl) T.n_sorted (by decide +kernel) (pa_cons (pe_fld (pv 0) rfl) pa_nil)))), ?_⟩
    obtain ⟨dx, d, kvs, hp, hd, ht⟩ := id hS
    have few := hN.len
    refine ⟨_, rfl, p, _, dx, _, _, rfl, hp, T.cl_Shelf, T.na_Shelf_by_name, rfl, d, kvs, us.map (·.1), rfl, .inl hd, ht.keys, by omega, fun ys l hy hs nl => ?_⟩
    obtain rfl := srt_of hy hs
    exact q l _ nl (same_upd nl) upd_same
def sp_Shelf_has (K : PySem.W.Frag) : Sp := fun vs H Q _ => ∃ (p : Addr) (w : Str) (us : List (Str × UF)), vs = [.ref p, .str w] ∧ ShelfAt K H p us ∧ Nms us ∧ Q (.bl (decide (w ∈ us.map (·.1)))) H
theorem Nms.val {R : V → Str → UF → Prop} {kvs : List (Key × V)} {us : List (Str × UF)} (n : Nms us) (h : Tab R kvs us) (w : Str) : (valV kvs (Sum.inr w : Key)).isSome = decide (w ∈ us.map (·.1)) := by
  by_cases c : w ∈ us.map (·.1)
  · obtain ⟨p, hp, rfl⟩ := List.mem_map.mp c
    obtain ⟨v, hv, _⟩ := h.get n.nd p hp
    rw [hv, decide_eq_true c]
    rfl
  · rw [h.free c, decide_eq_false c]
    rfl
theorem ok_Shelf_has (T : Txt K mg) : FnOk P w K mg base CX0 1 (He.fAd K ("Shelf", some "has")) T.d_Shelf_has ["self", "name"] (sp_Shelf_has K) := by
  refine T.F_Shelf_has.ok sc_Shelf_has (fun vs H Q E h => ?_) (fun cdv A outer s H vs Q E hr h => ?_)
  · obtain ⟨p, w, us, rfl, _⟩ := h
    rfl
  · obtain ⟨p, w, us, rfl, hS, hN, q⟩ := h
    refine ⟨_, PSs.nox (pss_one (ps_ret (pe_mid (pe_and (pe_callB (id := "isinstance")  call_isi (by rfl) T.n_isinstance (by decide +kernel) (pa_cons (pv 1) (pa_cons (pe_bltn (v := .ty "str") (u := .type "str") (by rfl) T.n_str (by decide +kernel) rfl) pa_nil))) (pe_one (pe_cmp (pc_din (hu_of hr) (pv 1) (pe_fld (pv 0) rfl)))))))), ?_⟩
    obtain ⟨dx, d, kvs, hp, hd, ht⟩ := id hS
    refine ⟨fun v H' => H' = H ∧ v = .bl (decide (w ∈ us.map (·.1))), ?_, ?_⟩
    · refine ⟨_, rfl, _, _, _, _, true, rfl, .ty "str", .base (.str _), kit_ty (by decide +kernel), true, rfl, iteT ?_⟩
      refine ⟨_, rfl, _, rfl, p, _, dx, _, _, rfl, hp, T.cl_Shelf, T.na_Shelf_by_name, rfl, d, _, rfl, DGet.k (k := Sum.inr w) hd, rfl, ?_⟩
      rw [hN.val ht w]
    · rintro v H' ⟨rfl, rfl⟩
      exact q
def sp_Shelf_unit (K : PySem.W.Frag) : Sp := fun vs H Q _ => ∃ (p : Addr) (w : Str) (us : List (Str × UF)), vs = [.ref p, .str w] ∧ ShelfAt K H p us ∧ Nms us ∧ w ∈ us.map (·.1) ∧
  ∀ a u, (w, u) ∈ us → UnitAt K H a w u → Q (.ref a) H
theorem ok_Shelf_unit (T : Txt K mg) : FnOk P w K mg base CX0 2 (He.fAd K ("Shelf", some "unit")) T.d_Shelf_unit ["self", "name"] (sp_Shelf_unit K) := by
  refine T.F_Shelf_unit.ok sc_Shelf_unit (fun vs H Q E h => ?_) (fun cdv A outer s H vs Q E hr h => ?_)
  · obtain ⟨p, w, us, rfl, _⟩ := h
    rfl
  · obtain ⟨p, w, us, rfl, hS, hN, hw, q⟩ := h
    refine ⟨_, PSs.nox (pss_cons (ps_if (pt_not (pt_val (pe_meth (pv 0) T.cl_Shelf T.me_Shelf_has (ok_Shelf_has T) (hr.mono (by decide)) T.b_Shelf_has .nil pass0 (pa_cons (pv 1) pa_nil))))
      (pss_one ps_never)
      pss_nil)
      (pss_one (ps_ret (pe_dget (hu_of hr) (pe_fld (pv 0) rfl) (pv 1) (fun _ _ => rfl))))), ?_⟩
    obtain ⟨dx, d, kvs, hp, hd, ht⟩ := id hS
    obtain ⟨u, hu⟩ : ∃ u, (w, u) ∈ us := by
      obtain ⟨r, hr, rfl⟩ := List.mem_map.mp hw
      exact ⟨r.2, hr⟩
    obtain ⟨v, hv, a, rfl, hA⟩ := ht.get hN.nd (w, u) hu
    refine ⟨_, rfl, p, dx, _, rfl, hp, rfl, _, rfl, p, w, us, rfl, hS, hN, ?_⟩
    rw [decide_eq_true hw]
    refine ⟨true, rfl, iteF ?_⟩
    refine ⟨_, rfl, p, _, dx, _, _, rfl, hp, T.cl_Shelf, T.na_Shelf_by_name, rfl, _, rfl, d, .ref a, rfl, by rw [← hv]; exact DGet.k (k := Sum.inr w) hd, ?_⟩
    exact q a u hu hA
def sp_Shelf_waited (K : PySem.W.Frag) : Sp := fun vs H Q _ => ∃ (p : Addr) (w : Str) (us : List (Str × UF)), vs = [.ref p, .str w] ∧ ShelfAt K H p us ∧ Nms us ∧ w ∈ us.map (·.1) ∧
  ∀ l H', H l = none → Same H H' → H' l = some (.lst ((wt us w).map V.str)) → Q (.ref l) H'
theorem ok_Shelf_waited (T : Txt K mg) : FnOk P w K mg base CX0 3 (He.fAd K ("Shelf", some "waited")) T.d_Shelf_waited ["self", "name"] (sp_Shelf_waited K) := by
  refine T.F_Shelf_waited.ok sc_Shelf_waited (fun vs H Q E h => ?_) (fun cdv A outer s H vs Q E hr h => ?_)
  · obtain ⟨p, w, us, rfl, _⟩ := h
    rfl
  · obtain ⟨p, w, us, rfl, hS, hN, hw, q⟩ := h
    refine ⟨_, PSs.nox (pss_cons (ps_set (i := 2) sc_Shelf_waited.nd rfl (Or.inr rfl) (pe_meth (pv 0) T.cl_Shelf T.me_Shelf_unit (ok_Shelf_unit T) (hr.mono (by decide)) T.b_Shelf_unit .nil pass0 (pa_cons (pv 1) pa_nil)))
      (pss_one (ps_ret (pe_lc (own := [("other", 3)]) (by rfl) sc_Shelf_waited.nd (pi_list (pe_meth0 (pv 0) T.cl_Shelf T.me_Shelf_names (ok_Shelf_names T) (hr.mono (by decide)) T.b_Shelf_names .nil pass0)) (blkOk_by (own := [("other", 3)]) (N := N_Shelf_waited) (sc := defScope s_Shelf_waited) (by decide +kernel)) (fun _ _ _ _ _ => (pg_name (i := 3) sc_Shelf_waited.nd rfl (Or.inl rfl))) (fun _ _ _ _ _ => by exact (pts_one (PW.pt (pw_or (pt_cmpR (r := rIn K false) op_in_seq (pv 3) (UP.pe_fldK (K := K) (by rfl) (pv 2) (by rfl)) (by rfl)) (pw_or (pt_cmpR (r := rIn K false) op_in_seq (pv 3) (UP.pe_fldK (K := K) (by rfl) (pv 2) (by rfl)) (by rfl)) (pw_or1 (pt_cmpR op_eq (UP.pe_fldK (K := K) (by rfl) (pe_dget (hu_of hr) (UP.pe_fldK (K := K) (by rfl) (pv 0) (by rfl)) (pv 3) (fun _ _ => rfl)) (by rfl)) (pv 1) (nomark _)))))))) (fun _ _ _ _ _ => (pv 3)))))), ?_⟩
    obtain ⟨dx, d, kvs, hp, hd, ht⟩ := id hS
    refine ⟨_, rfl, p, dx, _, rfl, hp, rfl, _, rfl, p, w, us, rfl, hS, hN, hw, fun a u hu hA => ?_⟩
    have hfu : fu us w = some u := fu_some hN.nd hu
    obtain ⟨dxu, n1, n2, n3, n4, r, ha, hn1, hn2, hn3, hn4, _⟩ := id hA
    refine ⟨_, rfl, p, dx, _, rfl, hp, rfl, p, us, rfl, hS, hN, fun l H1 nl s1 wl => ?_⟩
    refine ⟨l, rfl, ⟨_, SqL.of wl⟩, fun D nD => ?_⟩
    refine lc_list (xs := (srt (us.map (·.1))).map V.str) (fun i H' => Same H1 H' ∧ H' D = some (.lst ((((srt (us.map (·.1))).take i).filter (waitsB us w)).map V.str))) ⟨same_upd nD, upd_same⟩ (fun i H' _ h => SqL.of (h.1 _ _ wl)) ?_ ?_
    · rintro i x H2 hi ⟨s2, w2⟩
      obtain ⟨o, ho, rfl⟩ := map_str_get hi
      have hom : o ∈ us.map (·.1) := srt_mem.mp (List.mem_of_getElem? ho)
      obtain ⟨v, hfo, hv⟩ := fu_of hom hN.nd
      have wb : waitsB us w o = (decide (o ∈ u.needs) || (decide (o ∈ u.after) || decide (v.opens = some w))) := by
        unfold waitsB
        rw [hfu, hfo]
      have s12 := s1.trans s2
      have few := hN.len
      have hlen : ((((srt (us.map (·.1))).take i).filter (waitsB us w)).map V.str).length < sizeLine := by
        rw [List.length_map]
        refine Nat.lt_of_le_of_lt (List.length_filter_le _ _) (Nat.lt_of_le_of_lt (List.length_take_le' ..) (small1000 ?_))
        rw [srt_len]
        omega
      have yes : waitsB us w o = true → Same H1 (upd H2 D (.lst (((((srt (us.map (·.1))).take i).filter (waitsB us w)).map V.str) ++ [.str o]))) ∧ (upd H2 D (.lst (((((srt (us.map (·.1))).take i).filter (waitsB us w)).map V.str) ++ [.str o]))) D = some (.lst ((((srt (us.map (·.1))).take (i + 1)).filter (waitsB us w)).map V.str)) := fun c => by
        refine ⟨Same.own (q := D) s2 (mut_keep rfl) nD, ?_⟩
        rw [upd_same, take_filter_snoc _ ho, if_pos c, List.map_append]
        rfl
      have no : waitsB us w o = false → Same H1 H2 ∧ H2 D = some (.lst ((((srt (us.map (·.1))).take (i + 1)).filter (waitsB us w)).map V.str)) := fun c => by
        refine ⟨s2, ?_⟩
        rw [take_filter_snoc _ ho, if_neg (by rw [c]; exact Bool.false_ne_true), List.append_nil]
        exact w2
      refine ⟨rfl, _, rfl, _, rfl, a, _, dxu, _, _, rfl, s12 _ _ ha, T.cl_Unit, T.na_Unit_needs, rfl, n1, _, rfl, .inr (tup_same s12 hn1), rfl, strs_flat _, _, rfl, ?_⟩
      rw [inV_str]
      by_cases c1 : o ∈ u.needs
      · rw [decide_eq_true c1] at wb ⊢
        exact iteT (iteT ⟨_, rfl, _, w2, hlen, yes (by rw [wb]; rfl)⟩)
      rw [decide_eq_false c1] at wb ⊢
      refine iteF ⟨_, rfl, _, rfl, a, _, dxu, _, _, rfl, s12 _ _ ha, T.cl_Unit, T.na_Unit_after, rfl, n4, _, rfl, .inr (tup_same s12 hn4), rfl, strs_flat _, _, rfl, ?_⟩
      rw [inV_str]
      by_cases c2 : o ∈ u.after
      · rw [decide_eq_true c2] at wb ⊢
        exact iteT (iteT ⟨_, rfl, _, w2, hlen, yes (by rw [wb]; rfl)⟩)
      rw [decide_eq_false c2] at wb ⊢
      obtain ⟨ov, hov, b, rfl, hB⟩ := ht.get hN.nd (o, v) hv
      obtain ⟨dxv, m1, m2, m3, m4, r2, hb, _⟩ := id hB
      refine iteF ⟨_, rfl, p, _, dx, _, _, rfl, s12 _ _ hp, T.cl_Shelf, T.na_Shelf_by_name, rfl, _, rfl, d, .ref b, rfl, by rw [← hov]; exact DGet.k (k := Sum.inr o) (s12 _ _ hd), b, _, dxv, _, _, rfl, s12 _ _ hb, T.cl_Unit, T.na_Unit_opens, rfl, _, rfl, scal_optV v.opens (some w), _, rfl, ?_⟩
      rw [show decide (optV v.opens = V.str w) = decide (v.opens = some w) from dec_optV (y := some w)]
      by_cases c3 : v.opens = some w
      · rw [decide_eq_true c3] at wb ⊢
        exact iteT ⟨_, rfl, _, w2, hlen, yes (by rw [wb]; rfl)⟩
      · rw [decide_eq_false c3] at wb ⊢
        exact iteF (no (by rw [wb]; rfl))
    · rintro H2 ⟨s2, w2⟩
      rw [List.length_map, List.take_length] at w2
      exact q D H2 (s1.free nD) (s1.trans s2) w2

-- SPLIT
/-! ### the facts as a table, the units of it -/
abbrev FTab (K : PySem.W.Frag) (H : Hp) : List (Key × V) → List (Str × UF) → Prop := Tab fun v _ u => FactS K H v u
theorem FactS.same {H H' : Hp} {v : V} {u : UF} (h : FactS K H v u) (s : Same H H') : FactS K H' v u := by
  obtain ⟨t, n, x, b, a, g, e, h0, h1, h2, h3, h4, h5⟩ := h
  exact ⟨t, n, x, b, a, g, e, tup_same s h0, tup_same s h1, tup_same s h2, tup_same s h3, tup_same s h4, h5.same s⟩
theorem FactS.keep {H H' : Hp} {q : Addr} {v : V} {u : UF} (h : FactS K H v u) (k : Kp q H H') (n : NotTp H q) : FactS K H' v u := by
  obtain ⟨t, n1, x, b, a, g, e, h0, h1, h2, h3, h4, h5⟩ := h
  exact ⟨t, n1, x, b, a, g, e, k.tup n h0, k.tup n h1, k.tup n h2, k.tup n h3, k.tup n h4, h5.keep k fun xs => (n xs).1⟩
theorem FactsAt.tab {H : Hp} {kvs : List (Key × V)} {us : List (Str × UF)} (h : FactsAt H kvs us) : FTab K H kvs us := by
  induction h with
  | nil => exact .nil
  | snoc _ e ih => exact ih.app (.cons (FactAt.s e) .nil)
theorem FTab.same {H H' : Hp} {kvs : List (Key × V)} {us : List (Str × UF)} (h : FTab K H kvs us) (s : Same H H') : FTab K H' kvs us := h.imp fun _ _ _ r => FactS.same r s
theorem FTab.keep {H H' : Hp} {q : Addr} {kvs : List (Key × V)} {us : List (Str × UF)} (h : FTab K H kvs us) (k : Kp q H H') (n : NotTp H q) : FTab K H' kvs us := h.imp fun _ _ _ r => FactS.keep r k n
theorem NotTp.frz {H : Hp} {q : Addr} {o : Obj} {kvs : List (Key × V)} (h : H q = some (.frz o (.dK kvs))) : NotTp H q := fun ys => ⟨(fun e => by rw [h] at e; cases e), (fun o' e => by rw [h] at e; cases e)⟩
def sp_law_units (K : PySem.W.Frag) : Sp := fun vs H Q _ => ∃ (d : Addr) (kvs : List (Key × V)) (us : List (Str × UF)), vs = [.ref d] ∧ H d = some (.dK kvs) ∧ FTab K H kvs us ∧ Nms us ∧
  ∀ l xs H', H l = none → Same H H' → H' l = some (.lst xs) → ULs K H' xs us → Q (.ref l) H'
theorem ok_law_units (T : Txt K mg) : FnOk P w K mg base CX0 5 (He.fAd K ("_law_units", none)) T.d_law_units ["_law_facts_here"] (sp_law_units K) := by
  refine T.F_law_units.ok sc_law_units (fun vs H Q E h => ?_) (fun cdv A outer s H vs Q E hr h => ?_)
  · obtain ⟨d, kvs, us, rfl, _⟩ := h
    rfl
  · obtain ⟨d, kvs, us, rfl, hd, ht, hN, q⟩ := h
    refine ⟨_, PSs.nox (pss_one (ps_ret (pe_lock (pe_lc (own := [("_law_word", 1)]) (by rfl) sc_law_units.nd (pi_keys (pv 0)) (blkOk_by (own := [("_law_word", 1)]) (N := N_law_units) (sc := defScope s_law_units) (by decide +kernel)) (fun _ _ _ _ _ => (pg_name (i := 1) sc_law_units.nd rfl (Or.inl rfl))) (fun _ _ _ _ _ => pts_nil) (fun _ _ _ _ _ => (pe_call (ok_law_unit T) (hr.mono (by decide)) (by rfl) T.m_law_unit T.F_law_unit.kp T.b_law_unit .nil pass0 (pa_cons (pv 1) (pa_cons (pv 0) pa_nil)))))))), ?_⟩
    refine ⟨d, _, hd, trivial, fun od => ?_⟩
    generalize hE1 : upd H d _ = H1
    have wd := new_at hE1
    have m1 := mut_keep hE1
    have ht1 := FTab.keep ht m1 (.dK hd)
    refine ⟨_, rfl, d, od, rfl, .inl ⟨kvs, wd, fun D nD => ?_⟩⟩
    have few := hN.few
    have ndD : d ≠ D := ne_some wd nD
    refine lc_it walk_keys (fun i H' => Same H1 H' ∧ ∃ xs, H' D = some (.lst xs) ∧ ULs K H' xs (us.take i)) ⟨same_upd nD, [], upd_same, .nil⟩ (fun i H' _ h => h.1 _ _ wd) ?_ ?_
    · rintro i x H2 H2' hi ⟨s2, xs, w2, hU⟩ ⟨rfl, k, v, hk, rfl⟩
      obtain ⟨w, u, rfl, hu, r⟩ := ht1.at hk
      refine ⟨rfl, yes_of (iteT ?_)⟩
      obtain ⟨v', hv', r'⟩ := ht1.get hN.nd (w, u) (List.mem_of_getElem? hu)
      have hg : DGet H2' d (.str w) (some v') := by
        rw [← hv']
        exact .inl ⟨kvs, Sum.inr w, .inr ⟨od, s2 _ _ wd⟩, rfl, rfl⟩
      refine ⟨_, rfl, _, rfl, w, d, v', u, rfl, hg, FactS.same r' s2, fun p H3 np s3 hA => ?_⟩
      have w3 := s3 _ _ w2
      refine ⟨xs, w3, by rw [hU.len, List.length_take]; exact small1000 (by omega), ?_⟩
      generalize hE4 : upd H3 D _ = H4
      have m4 := mut_keep hE4
      refine ⟨Same.own (s2.trans s3) m4 nD, _, new_at hE4, ?_⟩
      rw [take_snoc hu]
      exact ((hU.same s3).keepN m4 (.lst w3) (.lst w3)).app (.cons (hA.keepN m4 (.lst w3) (.lst w3)) .nil)
    · rintro H2 ⟨s2, xs, w2, hU⟩
      rw [ht.len, List.take_length] at hU
      have wd2 := s2 _ _ wd
      refine ⟨wd2, ?_⟩
      generalize hE3 : upd H2 d _ = H3
      have m3 := mut_keep hE3
      have nlH : H D = none := by
        have : H1 D = none := nD
        rw [← hE1, upd_ne ndD.symm] at this
        exact this
      refine q D xs H3 nlH (fun c o e => ?_) (m3 _ _ w2 ndD.symm) (hU.keepN m3 (NotTp.frz wd2) fun C dx f fs z => by rw [wd2] at z; cases z)
      by_cases c0 : c = d
      · subst c0
        rw [hd] at e
        cases e
        exact new_at hE3
      · exact m3 _ _ (s2 _ _ (m1 _ _ e c0)) c0

/-! ### the facts of a law -/
theorem inV_bl (bs : List Bool) : inV (.bl true) (bs.map V.bl) = bs.any id := by
  unfold inV
  rw [List.any_map]
  congr 1
  funext b
  cases b <;> rfl
theorem bls_flat (bs : List Bool) : (bs.map V.bl).all flatV = true := by
  rw [List.all_eq_true]
  intro v hv
  obtain ⟨x, _, rfl⟩ := List.mem_map.mp hv
  rfl
/-- the facts of a law stand so -/
structure LF (K : PySem.W.Frag) (H : Hp) (d : Addr) (us : List (Str × UF)) : Prop where
  ex : ∃ kvs, H d = some (.dK kvs) ∧ FTab K H kvs us
  nms : Nms us
  few : ∀ p ∈ us, p.2.needs.length ≤ 100 ∧ p.2.after.length ≤ 100
theorem LF.same {H H' : Hp} {d : Addr} {us : List (Str × UF)} (h : LF K H d us) (s : Same H H') : LF K H' d us := by
  obtain ⟨kvs, h1, h2⟩ := h.ex
  exact ⟨⟨kvs, s _ _ h1, FTab.same h2 s⟩, h.nms, h.few⟩
theorem LF.keepL {H H' : Hp} {d q : Addr} {us : List (Str × UF)} {xs : List V} (h : LF K H d us) (k : Kp q H H') (hq : H q = some (.lst xs)) : LF K H' d us := by
  obtain ⟨kvs, h1, h2⟩ := h.ex
  exact ⟨⟨kvs, k _ _ h1 (fun e => by rw [e, hq] at h1; cases h1), FTab.keep h2 k (.lst hq)⟩, h.nms, h.few⟩
theorem LF.keepB {H H' : Hp} {d q : Addr} {us : List (Str × UF)} {n : Nat} (h : LF K H d us) (k : Kp q H H') (B : Bag n H q) : LF K H' d us := by
  obtain ⟨_, _, _, hq, _⟩ := B.ex
  exact h.keepL k hq

-- SPLIT
/-! ### knots -/
def WR (H : Hp) (v : V) (_ : Str) (ys : List Str) : Prop := ∃ l, v = .ref l ∧ H l = some (.lst (ys.map V.str))
theorem WR.same {H H' : Hp} {v : V} {w : Str} {ys : List Str} (h : WR H v w ys) (s : Same H H') : WR H' v w ys := by
  obtain ⟨l, e, hl⟩ := h
  exact ⟨l, e, s _ _ hl⟩
theorem WR.keepD {H H' : Hp} {v : V} {w : Str} {ys : List Str} {q : Addr} {kvs : List (Key × V)} (h : WR H v w ys) (k : Kp q H H') (hq : H q = some (.dK kvs)) : WR H' v w ys := by
  obtain ⟨l, e, hl⟩ := h
  exact ⟨l, e, k _ _ hl fun z => by rw [z, hq] at hl; cases hl⟩
/-- the same, of lists that are not at q -/
def WRn (H : Hp) (q : Addr) (v : V) (_ : Str) (ys : List Str) : Prop := ∃ l, v = .ref l ∧ l ≠ q ∧ H l = some (.lst (ys.map V.str))
theorem WRn.wr {H : Hp} {q : Addr} {v : V} {w : Str} {ys : List Str} (h : WRn H q v w ys) : WR H v w ys := by
  obtain ⟨l, e, _, hl⟩ := h
  exact ⟨l, e, hl⟩
theorem WRn.same {H H' : Hp} {q : Addr} {v : V} {w : Str} {ys : List Str} (h : WRn H q v w ys) (s : Same H H') : WRn H' q v w ys := by
  obtain ⟨l, e, n, hl⟩ := h
  exact ⟨l, e, n, s _ _ hl⟩
theorem WRn.keep {H H' : Hp} {q : Addr} {v : V} {w : Str} {ys : List Str} (h : WRn H q v w ys) (k : Kp q H H') : WRn H' q v w ys := by
  obtain ⟨l, e, n, hl⟩ := h
  exact ⟨l, e, n, k _ _ hl n⟩
theorem cutV_from (xs : List Str) (n : Nat) : cutV (xs.map V.str) (some (n : Int)) none = (xs.drop n).map V.str := by
  unfold cutV
  rw [show HT.sIx (xs.map V.str).length 0 (some (n : Int)) = min n (xs.map V.str).length from HT.sIx_nat (xs.map V.str).length 0 n, HT.sIx_none, List.length_map, List.map_drop]
  rw [List.take_of_length_le (by rw [List.length_drop, List.length_map]; exact Nat.le_refl _)]
  by_cases h : n ≤ xs.length
  · rw [Nat.min_eq_left h]
  · rw [Nat.min_eq_right (by omega), List.drop_eq_nil_of_le (by rw [List.length_map]; exact Nat.le_refl _), List.drop_eq_nil_of_le (by rw [List.length_map]; omega)]
def NxO (f : Str → List Str) (ns order : List Str) (v : V) : Prop := (v = .non ∧ ∀ n ∈ ns, n ∉ order → ∃ o ∈ f n, o ∉ order) ∨ ∃ n, v = .str n ∧ n ∈ ns ∧ n ∉ order ∧ ∀ o ∈ f n, o ∈ order
def sp_next_in (K : PySem.W.Frag) : Sp := fun vs H Q _ => ∃ (d l : Addr) (kvs : List (Key × V)) (ns order : List Str) (f : Str → List Str), vs = [.ref d, .ref l] ∧ H d = some (.dK kvs) ∧ Tab (WR H) kvs (ns.map fun n => (n, f n)) ∧ ns.Nodup ∧ ns.length ≤ 16 ∧ (∀ n, (f n).length ≤ 16) ∧ H l = some (.lst (order.map V.str)) ∧
  ∀ v H', Same H H' → NxO f ns order v → Q v H'
theorem ok_next_in (T : Txt K mg) : FnOk P w K mg base CX0 1 (He.fAd K ("next_in", none)) T.d_next_in ["waiting", "order"] (sp_next_in K) := by
  refine T.F_next_in.ok sc_next_in (fun vs H Q E h => ?_) (fun cdv A outer s H vs Q E hr h => ?_)
  · obtain ⟨d, l, kvs, ns, order, f, rfl, _⟩ := h
    rfl
  · obtain ⟨d, l, kvs, ns, order, f, rfl, hd, ht, hn, hl, hf, ho, q⟩ := h
    refine ⟨_, PSs.nox (pss_cons (ps_for PassesOwn.never rfl (pi_list (pe_callB (id := "sorted")  (call_sortedD rfl) (by rfl) T.n_sorted (by decide +kernel) (pa_cons (pv 0) pa_nil))) (pg_name (i := 2) sc_next_in.nd rfl (Or.inl rfl))
      (pss_one (ps_if (PW.pt (pw_and (pt_cmpR op_notIn_seq (pv 2) (pv 1) (by rfl)) (pw_and1 (pt_val (pe_callB (id := "all")  (cr_all rfl) (by rfl) T.n_all (by decide +kernel) (pa_cons (pe_lc (own := [("other", 3)]) (by rfl) sc_next_in.nd (pi_list (pe_dget (hu_of hr) (pv 0) (pv 2) (fun _ _ => rfl))) (blkOk_by (own := [("other", 3)]) (N := N_next_in) (sc := defScope s_next_in) (by decide +kernel)) (fun _ _ _ _ _ => (pg_name (i := 3) sc_next_in.nd rfl (Or.inl rfl))) (fun _ _ _ _ _ => pts_nil) (fun _ _ _ _ _ => (pe_cmpR (r := rIn K false) op_in_seq (pv 3) (pv 1) (by rfl)))) pa_nil))))))
      (pss_one (ps_ret (pv 2)))
      pss_nil)))
      (pss_one (ps_ret pe_non))), ?_⟩
    have names : (ns.map fun n => (n, f n)).map (·.1) = ns := by
      rw [List.map_map]
      exact List.map_id _
    have hk := ht.keys
    rw [names] at hk
    refine ⟨_, rfl, d, kvs, ns, rfl, .inl hd, hk, by omega, fun ys p hy hs np => ?_⟩
    obtain rfl := srt_of hy hs
    generalize hE : upd H p _ = H1
    have w1 := new_at hE
    have s1 := new_same hE np
    refine ⟨p, rfl, ⟨_, SqL.of w1⟩, for_list (xs := (srt ns).map V.str) (fun i σ H' => Same H1 H' ∧ (∀ n ∈ (srt ns).take i, n ∉ order → ∃ o ∈ f n, o ∉ order) ∧ ∃ y1 y2 : Option V, σ = [some (.ref d), some (.ref l), y1, y2])
      ⟨Same.refl _, (fun n hx => nomatch hx), none, none, rfl⟩ (fun i σ H' _ h => SqL.of (h.1 _ _ w1)) ?_ ?_⟩
    · rintro i x σ H2 hi ⟨s2, no, y1, y2, rfl⟩
      obtain ⟨n, hnm, rfl⟩ := map_str_get hi
      have hns : n ∈ ns := srt_mem.mp (List.mem_of_getElem? hnm)
      have s12 := s1.trans s2
      -- name not in order
      refine ⟨_, rfl, _, rfl, l, _, rfl, .inl (SqL.of (s12 _ _ ho)), rfl, strs_flat _, _, rfl, ?_⟩
      show if (if true = true then !inV (.str n) (order.map V.str) else _) = true then _ else _
      rw [if_pos rfl, inV_str]
      by_cases c : n ∈ order
      · rw [decide_eq_true c]
        refine iteF (iteF ⟨s2, fun m hm hmo => ?_, _, _, rfl⟩)
        rw [take_snoc hnm] at hm
        rcases List.mem_append.mp hm with hm | hm
        · exact no m hm hmo
        · rw [List.mem_singleton.mp hm] at hmo
          exact absurd c hmo
      rw [decide_eq_false c]
      refine iteT ?_
      -- all([..])
      obtain ⟨v, hv, wl, rfl, hwl⟩ := ht.get (by rw [names]; exact hn) (n, f n) (List.mem_map.mpr ⟨n, hns, rfl⟩)
      refine ⟨_, rfl, _, rfl, d, .ref wl, rfl, by rw [← hv]; exact DGet.k (k := Sum.inr n) (s12 _ _ hd), wl, rfl, ⟨_, SqL.of (s12 _ _ hwl)⟩, fun D nD => ?_⟩
      refine lc_list (xs := (f n).map V.str) (fun j H' => Same H2 H' ∧ H' D = some (.lst (((f n).take j).map fun o => V.bl (decide (o ∈ order))))) ⟨same_upd nD, upd_same⟩ (fun j H' _ h => SqL.of ((s12.trans h.1) _ _ hwl)) ?_ ?_
      · rintro j x H3 hj ⟨s3, w3⟩
        obtain ⟨o, hoo, rfl⟩ := map_str_get hj
        refine ⟨rfl, yes_of (iteT ?_)⟩
        refine ⟨_, rfl, _, rfl, l, _, rfl, .inl (SqL.of ((s12.trans s3) _ _ ho)), rfl, strs_flat _, _, w3, ?_, Same.own (q := D) s3 (mut_keep rfl) nD, ?_⟩
        · rw [List.length_map]
          have := hf n
          exact Nat.lt_of_le_of_lt (List.length_take_le' ..) (small1000 (by omega))
        · rw [upd_same, take_snoc hoo, List.map_append]
          show some (HO.lst (_ ++ [V.bl (inV (.str o) (order.map V.str))])) = _
          rw [inV_str]
          rfl
      rintro H3 ⟨s3, w3⟩
      rw [List.length_map, List.take_length] at w3
      refine ⟨D, (f n).map fun o => decide (o ∈ order), rfl, SqL.of (by rw [List.map_map]; exact w3), _, rfl, ?_⟩
      have s13 := s12.trans s3
      by_cases c2 : ∀ o ∈ f n, o ∈ order
      · rw [show ((f n).map fun o => decide (o ∈ order)).all id = true from List.all_eq_true.mpr fun b hb => by obtain ⟨o, ho', rfl⟩ := List.mem_map.mp hb; exact decide_eq_true (c2 o ho')]
        exact iteT ⟨_, rfl, q _ H3 s13 (.inr ⟨n, rfl, hns, c, c2⟩)⟩
      · have c3 : ∃ o ∈ f n, o ∉ order := by
          rcases Classical.em (∃ o ∈ f n, o ∉ order) with z | z
          · exact z
          · exact absurd (fun o ho' => Classical.byContradiction fun w => z ⟨o, ho', w⟩) c2
        rw [show ((f n).map fun o => decide (o ∈ order)).all id = false from by
          obtain ⟨o, ho', hno⟩ := c3
          rw [Bool.eq_false_iff]
          intro z
          exact hno (of_decide_eq_true (List.all_eq_true.mp z _ (List.mem_map.mpr ⟨o, ho', rfl⟩)))]
        refine iteF ⟨s2.trans s3, fun m hm hmo => ?_, _, _, rfl⟩
        rw [take_snoc hnm] at hm
        rcases List.mem_append.mp hm with hm | hm
        · exact no m hm hmo
        · rw [List.mem_singleton.mp hm]
          exact c3
    · rintro σ H2 ⟨s2, no, y1, y2, rfl⟩
      refine q _ H2 (s1.trans s2) (.inl ⟨rfl, fun n hns hno => no n ?_ hno⟩)
      rw [List.length_map, List.take_length]
      exact srt_mem.mpr hns
def wn (us : List (Str × UF)) (ns : List Str) (n : Str) : List Str := (wt us n).filter fun o => decide (o ∈ ns)
theorem wn_len {us : List (Str × UF)} (h : Nms us) (ns : List Str) (n : Str) : (wn us ns n).length ≤ 16 := by
  refine Nat.le_trans (List.length_filter_le _ _) (Nat.le_trans (List.length_filter_le _ _) ?_)
  rw [srt_len]
  exact h.len
def sp_free_order (K : PySem.W.Frag) : Sp := fun vs H Q _ => ∃ (p l : Addr) (us : List (Str × UF)) (ns : List Str), vs = [.ref p, .ref l] ∧ ShelfAt K H p us ∧ Nms us ∧ H l = some (.lst (ns.map V.str)) ∧ ns.Nodup ∧ (∀ n ∈ ns, n ∈ us.map (·.1)) ∧
  ∀ order D H', Same H H' → H D = none → H' D = some (.lst (order.map V.str)) → FreeO (wt us) ns order → (∀ n ∈ ns, n ∉ order → ∃ o ∈ wt us n, o ∈ ns ∧ o ∉ order) → Q (.ref D) H'
theorem ok_free_order (T : Txt K mg) : FnOk P w K mg base CX0 4 (He.fAd K ("free_order", none)) T.d_free_order ["shelf", "names"] (sp_free_order K) := by
  refine T.F_free_order.ok sc_free_order (fun vs H Q E h => ?_) (fun cdv A outer s H vs Q E hr h => ?_)
  · obtain ⟨p, l, us, ns, rfl, _⟩ := h
    rfl
  · obtain ⟨p, l, us, ns, rfl, hS, hN, hl, hn, hsub, q⟩ := h
    refine ⟨_, PSs.nox (pss_cons (UP.ps_setDc (i := 2) (own := [("name", 5)]) (by rfl) sc_free_order.nd rfl rfl (UP.sw_dict rfl rfl rfl (by decide +kernel)) (pi_list (pv 1)) (blkOk_by (own := [("name", 5)]) (N := N_free_order) (sc := defScope s_free_order) (by decide +kernel)) (fun _ _ _ _ _ => (pg_name (i := 5) sc_free_order.nd rfl (Or.inl rfl))) (fun _ _ _ _ _ => pts_nil) (fun _ _ _ _ _ => (pv 5)) (fun _ _ _ _ _ => by exact (pe_lc (own := [("other", 6)]) (by rfl) sc_free_order.nd (UP.pi_listK (K := K) (by rfl) (pe_meth (pv 0) T.cl_Shelf T.me_Shelf_waited (ok_Shelf_waited T) (hr.mono (by decide)) T.b_Shelf_waited .nil pass0 (pa_cons (pv 5) pa_nil))) (blkOk_by (own := [("other", 6)]) (N := N_free_order) (sc := _) (by rfl)) (fun _ _ _ _ _ => (pg_name (i := 6) sc_free_order.nd rfl (Or.inl rfl))) (fun _ _ _ _ _ => (pts_one (pt_cmpR (r := rIn K false) op_in_seq (pv 6) (pv 1) (by rfl)))) (fun _ _ _ _ _ => (pv 6)))))
      (pss_cons (ps_set (i := 3) sc_free_order.nd rfl (Or.inl rfl) (pe_lst pa_nil))
      (pss_cons (ps_set (i := 4) sc_free_order.nd rfl (Or.inl rfl) (pe_call (ok_next_in T) (hr.mono (by decide)) (by rfl) T.m_next_in T.F_next_in.kp T.b_next_in .nil pass0 (pa_cons (pv 2) (pa_cons (pv 3) pa_nil))))
      (pss_cons (ps_while PassesOwn.never (pt_cmpR op_notN (pv 4) pe_non (nomark _))
      (pss_cons (ps_expr (pe_bm PySem.F.plainAttrs_list PySem.F.slot_list_append PySem.F.type_list_append mt_append (pv 3) (pa_cons (pv 4) pa_nil)))
      (pss_one (ps_set (i := 4) sc_free_order.nd rfl (Or.inl rfl) (pe_call (ok_next_in T) (hr.mono (by decide)) (by rfl) T.m_next_in T.F_next_in.kp T.b_next_in .nil pass0 (pa_cons (pv 2) (pa_cons (pv 3) pa_nil)))))))
      (pss_one (ps_ret (pv 3))))))), ?_⟩
    -- waiting = {..}
    refine ⟨_, rfl, l, rfl, ⟨_, SqL.of hl⟩, fun D nD => ?_⟩
    have few : ns.length ≤ 16 := Nat.le_trans (nodup_le ns _ hn hsub) hN.len
    refine dc_it (walk_list (xs := ns.map V.str)) (fun i H' => Same H H' ∧ ∃ kvs, H' D = some (.dK kvs) ∧ Tab (WR H') kvs ((ns.take i).map fun n => (n, wn us ns n))) ⟨same_upd nD, [], upd_same, .nil⟩ (fun i H' _ h => SqL.of (h.1 _ _ hl)) ?_ ?_
    · rintro i x H1 H1' hi ⟨s1, kvs, w1, ht⟩ ⟨rfl, hx⟩
      obtain ⟨n, hnm, rfl⟩ := map_str_get hx
      have hns : n ∈ ns := List.mem_of_getElem? hnm
      refine ⟨rfl, yes_of (iteT ?_)⟩
      obtain ⟨dx, d, kv0, hp, _⟩ := id (hS.same s1)
      refine ⟨_, rfl, _, rfl, p, dx, _, rfl, hp, rfl, _, rfl, p, n, us, rfl, hS.same s1, hN, hsub n hns, fun wl H2 nwl s2 wwl => ?_⟩
      refine ⟨wl, rfl, ⟨_, SqL.of wwl⟩, fun D2 nD2 => ?_⟩
      refine lc_list (xs := (wt us n).map V.str) (fun j H' => Same H2 H' ∧ H' D2 = some (.lst ((((wt us n).take j).filter fun o => decide (o ∈ ns)).map V.str))) ⟨same_upd nD2, upd_same⟩ (fun j H' _ h => SqL.of (h.1 _ _ wwl)) ?_ ?_
      · rintro j x H3 hj ⟨s3, w3⟩
        obtain ⟨o, hoo, rfl⟩ := map_str_get hj
        refine ⟨rfl, _, rfl, _, rfl, l, _, rfl, .inl (SqL.of (((s1.trans s2).trans s3) _ _ hl)), rfl, strs_flat _, _, rfl, ?_⟩
        rw [take_filter_snoc _ hoo, inV_str]
        by_cases c : o ∈ ns
        · rw [decide_eq_true c]
          refine iteT ⟨_, rfl, _, w3, ?_, Same.own (q := D2) s3 (mut_keep rfl) nD2, ?_⟩
          · rw [List.length_map]
            refine Nat.lt_of_le_of_lt (List.length_filter_le _ _) (Nat.lt_of_le_of_lt (List.length_take_le' ..) (Nat.lt_of_le_of_lt (List.length_filter_le _ _) (small1000 ?_)))
            rw [srt_len]
            have := hN.len
            omega
          · rw [upd_same, if_pos rfl, List.map_append]
            rfl
        · rw [decide_eq_false c]
          refine iteF ⟨s3, ?_⟩
          rw [if_neg Bool.false_ne_true, List.append_nil]
          exact w3
      rintro H3 ⟨s3, w3⟩
      rw [List.length_map, List.take_length] at w3
      have s13 := (s1.trans s2).trans s3
      have wD3 := (s2.trans s3) _ _ w1
      have hfree : n ∉ ((ns.take i).map fun n => (n, wn us ns n)).map (·.1) := by
        rw [List.map_map]
        intro hm
        obtain ⟨m, hm, e⟩ := List.mem_map.mp hm
        have e : m = n := e
        rw [e, List.mem_take_iff_getElem] at hm
        obtain ⟨j, hj, e2⟩ := hm
        have := (List.getElem?_inj (by omega) hn).mp ((List.getElem?_eq_getElem (by omega)).trans ((congrArg some e2).trans hnm.symm))
        omega
      have hkl : kvs.length ≤ 16 := by
        rw [ht.len, List.length_map, List.length_take]
        omega
      refine ⟨kvs, Sum.inr n, rfl, wD3, small1000 (by omega), ?_⟩
      rw [putK_new _ (ht.free hfree)]
      generalize hE4 : upd H3 D _ = H4
      have m4 := mut_keep hE4
      refine ⟨Same.own s13 m4 nD, _, new_at hE4, ?_⟩
      rw [take_snoc hnm, List.map_append]
      exact (ht.imp fun v w ys r => (WR.same r (s2.trans s3)).keepD m4 wD3).app (.cons ⟨D2, rfl, m4 _ _ w3 fun z => by rw [z, wD3] at w3; cases w3⟩ .nil)
    rintro H1 ⟨s1, kvs, w1, ht⟩
    rw [List.length_map, List.take_length] at ht
    -- order = []; least = next_in(waiting, order)
    refine ⟨by show 0 ≤ sizeLine; decide, fun D2 nD2 => ?_⟩
    generalize hE2 : upd H1 D2 _ = H2
    have w2 : H2 D2 = some (.lst (([] : List Str).map V.str)) := new_at hE2
    have s2 := new_same hE2 nD2
    have nD2H : H D2 = none := s1.free nD2
    have ne : D ≠ D2 := ne_some w1 nD2
    have wlen := wn_len hN ns
    have htn : Tab (WRn H1 D2) kvs (ns.map fun n => (n, wn us ns n)) := ht.imp fun v w ys ⟨l, e, hl⟩ => ⟨l, e, ne_some hl nD2, hl⟩
    refine ⟨_, rfl, _, rfl, D, D2, kvs, ns, [], wn us ns, rfl, s2 _ _ w1, ht.imp fun v w ys r => WR.same r s2, hn, few, wlen, w2, fun v H3 s3 hv => ?_⟩
    refine ⟨fun m σ H' => Same H H' ∧ H' D = some (.dK kvs) ∧ Tab (WRn H' D2) kvs (ns.map fun n => (n, wn us ns n)) ∧ ∃ (order : List Str) (v : V), m + order.length = 17 ∧ FreeO (wt us) ns order ∧ H' D2 = some (.lst (order.map V.str)) ∧ NxO (wn us ns) ns order v ∧ σ = [some (.ref p), some (.ref l), some (.ref D), some (.ref D2), some v, none, none],
      ⟨17, s1.trans (s2.trans s3), s3 _ _ (s2 _ _ w1), htn.imp (fun v w ys r => WRn.same r (s2.trans s3)), [], v, rfl, FreeO.nil _, s3 _ _ w2, hv, rfl⟩, ?_⟩
    rintro m σ H4 ⟨s4, w4, ht4, order, v4, hm, hf, wo, hv4, rfl⟩
    rcases hv4 with ⟨rfl, fin⟩ | ⟨n, rfl, hns, hno, hall⟩
    · refine ⟨_, rfl, rfl, _, rfl, neF ⟨_, rfl, q order D2 H4 s4 nD2H wo hf fun n hn' ho => ?_⟩⟩
      obtain ⟨o, h1, h2⟩ := fin n hn' ho
      obtain ⟨h3, h4⟩ := List.mem_filter.mp h1
      exact ⟨o, h3, of_decide_eq_true h4, h2⟩
    · have hf2 : FreeO (wt us) ns (order ++ [n]) := hf.snoc hns hno fun o ho hs => hall o (List.mem_filter.mpr ⟨ho, decide_eq_true hs⟩)
      have hol : order.length + 1 ≤ 16 := by
        have := nodup_le (order ++ [n]) ns hf2.nd hf2.sub
        rw [List.length_append] at this
        have : order.length + 1 ≤ ns.length := this
        omega
      refine ⟨_, rfl, rfl, _, rfl, ?_⟩
      rw [decide_eq_false (show ¬ V.str n = V.non from fun z => nomatch z)]
      refine iteT ⟨fun σ' H' => Same H H' ∧ H' D = some (.dK kvs) ∧ Tab (WRn H' D2) kvs (ns.map fun n => (n, wn us ns n)) ∧ ∃ (order : List Str) (v : V), (m - 1) + order.length = 17 ∧ FreeO (wt us) ns order ∧ H' D2 = some (.lst (order.map V.str)) ∧ NxO (wn us ns) ns order v ∧ σ' = [some (.ref p), some (.ref l), some (.ref D), some (.ref D2), some v, none, none],
        fun σ' H' h => ⟨m - 1, by omega, h⟩, ?_⟩
      refine ⟨_, rfl, .inl ⟨rfl, _, SqL.of wo⟩, _, rfl, D2, _, _, rfl, rfl, wo, by rw [List.length_map]; exact small1000 (by omega), ?_⟩
      generalize hE5 : upd H4 D2 _ = H5
      have w5 : H5 D2 = some (.lst ((order ++ [n]).map V.str)) := by
        rw [List.map_append]
        exact new_at hE5
      have m5 := mut_keep hE5
      have ht5 : Tab (WRn H5 D2) kvs (ns.map fun n => (n, wn us ns n)) := ht4.imp fun v w ys r => WRn.keep r m5
      refine ⟨_, rfl, _, rfl, D, D2, kvs, ns, order ++ [n], wn us ns, rfl, m5 _ _ w4 ne, ht5.imp (fun v w ys r => WRn.wr r), hn, few, wlen, w5, fun v H6 s6 hv => ?_⟩
      refine ⟨(Same.own s4 m5 nD2H).trans s6, s6 _ _ (m5 _ _ w4 ne), ht5.imp fun v w ys r => WRn.same r s6, order ++ [n], v, ?_, hf2, s6 _ _ w5, hv, rfl⟩
      rw [List.length_append]
      show m - 1 + (order.length + 1) = 17
      omega
def sp_ring_in (K : PySem.W.Frag) : Sp := fun vs H Q _ => ∃ (p l : Addr) (us : List (Str × UF)) (ns : List Str), vs = [.ref p, .ref l] ∧ ShelfAt K H p us ∧ Nms us ∧ (∀ w, w ∉ wt us w) ∧ H l = some (.lst (ns.map V.str)) ∧ ns ≠ [] ∧ ns.Nodup ∧ (∀ n ∈ ns, n ∈ us.map (·.1)) ∧ (∀ n ∈ ns, ∃ o ∈ wt us n, o ∈ ns) ∧
  ∀ r D H', Same H H' → H D = none → H' D = some (.lst (r.map V.str)) → IsRing (wt us) ns r → Q (.ref D) H'
theorem ok_ring_in (T : Txt K mg) : FnOk P w K mg base CX0 4 (He.fAd K ("ring_in", none)) T.d_ring_in ["shelf", "stuck"] (sp_ring_in K) := by
  refine T.F_ring_in.ok sc_ring_in (fun vs H Q E h => ?_) (fun cdv A outer s H vs Q E hr h => ?_)
  · obtain ⟨p, l, us, ns, rfl, _⟩ := h
    rfl
  · obtain ⟨p, l, us, ns, rfl, hS, hN, self, hl, hne, hn, hsub, hst, q⟩ := h
    refine ⟨_, PSs.nox (pss_cons (ps_set (i := 2) sc_ring_in.nd rfl (Or.inl rfl) (pe_lst pa_nil))
      (pss_cons (ps_set (i := 3) sc_ring_in.nd rfl (Or.inl rfl) (pe_ix ix_list (pv 1) pe_int (fun _ _ => rfl)))
      (pss_cons (ps_while PassesOwn.never (pt_cmpR op_notIn_seq (pv 3) (pv 2) (by rfl))
      (pss_cons (ps_expr (pe_bm PySem.F.plainAttrs_list PySem.F.slot_list_append PySem.F.type_list_append mt_append (pv 2) (pa_cons (pv 3) pa_nil)))
      (pss_one (ps_set (i := 3) sc_ring_in.nd rfl (Or.inl rfl) (pe_ix ix_list (pe_lc (own := [("other", 4)]) (by rfl) sc_ring_in.nd (pi_list (pe_meth (pv 0) T.cl_Shelf T.me_Shelf_waited (ok_Shelf_waited T) (hr.mono (by decide)) T.b_Shelf_waited .nil pass0 (pa_cons (pv 3) pa_nil))) (blkOk_by (own := [("other", 4)]) (N := N_ring_in) (sc := defScope s_ring_in) (by decide +kernel)) (fun _ _ _ _ _ => (pg_name (i := 4) sc_ring_in.nd rfl (Or.inl rfl))) (fun _ _ _ _ _ => (pts_one (pt_cmpR (r := rIn K false) op_in_seq (pv 4) (pv 1) (by rfl)))) (fun _ _ _ _ _ => (pv 4))) pe_int (fun _ _ => rfl))))))
      (pss_one (ps_ret (pe_slice sl_list (pv 2) (po_some (pe_bm PySem.F.plainAttrs_list PySem.F.slot_list_index PySem.F.type_list_index mt_index (pv 2) (pa_cons (pv 3) pa_nil))) po_none)))))), ?_⟩
    have few : ns.length ≤ 16 := Nat.le_trans (nodup_le ns _ hn hsub) hN.len
    refine ⟨by show 0 ≤ sizeLine; decide, fun D nD => ?_⟩
    generalize hE1 : upd H D _ = H1
    have w1 : H1 D = some (.lst (([] : List Str).map V.str)) := new_at hE1
    have s1 := new_same hE1 nD
    have nlD : l ≠ D := ne_some hl nD
    obtain ⟨n0, rest, rfl⟩ := List.exists_cons_of_ne_nil hne
    refine ⟨_, rfl, l, _, _, _, rfl, rfl, SqL.of (s1 _ _ hl), at0, ?_⟩
    refine ⟨fun m σ H' => Same H H' ∧ ∃ (t : List Str) (n : Str), m + t.length = 17 ∧ Trail (wt us) (n0 :: rest) t n ∧ H' D = some (.lst (t.map V.str)) ∧ σ = [some (.ref p), some (.ref l), some (.ref D), some (.str n), none],
      ⟨17, s1, [], n0, rfl, Trail.start (List.mem_cons_self ..), w1, rfl⟩, ?_⟩
    rintro m σ H2 ⟨s2, t, n, hm, hT, w2, rfl⟩
    refine ⟨_, rfl, _, rfl, D, _, rfl, .inl (SqL.of w2), rfl, strs_flat _, _, rfl, ?_⟩
    show if (if true = true then !inV (.str n) (t.map V.str) else _) = true then _ else _
    rw [if_pos rfl, inV_str]
    by_cases c : n ∈ t
    · rw [decide_eq_true c]
      obtain ⟨j, hj, ej⟩ := List.getElem_of_mem c
      have hjn : t[j]? = some n := by rw [List.getElem?_eq_getElem hj, ej]
      refine iteF ⟨_, rfl, _, rfl, .inl ⟨rfl, _, SqL.of w2⟩, _, rfl, D, _, _, j, .str n, rfl, rfl, SqL.of w2, rfl, strs_flat _, by rw [List.getElem?_map, hjn]; rfl, by show (n == n) = true; exact beq_self_eq_true n, fun i z hi hz => ?_, _, rfl, D, _, rfl, SqL.of w2, fun R nR => ?_⟩
      · obtain ⟨x, hx, rfl⟩ := map_str_get hz
        show (x == n) = false
        refine beq_eq_false_iff_ne.mpr fun e => ?_
        rw [e] at hx
        have := (List.getElem?_inj (by omega) hT.nd).mp (hx.trans hjn.symm)
        omega
      · rw [cutV_from]
        exact q _ R _ (s2.trans (same_upd nR)) (s2.free nR) upd_same (hT.ring hjn (self n))
    · rw [decide_eq_false c]
      have htl : t.length + 1 ≤ 16 := by
        have := nodup_le (t ++ [n]) (n0 :: rest) (by
          rw [List.nodup_append]
          exact ⟨hT.nd, List.nodup_cons.mpr ⟨by simp, List.nodup_nil⟩, fun a ha b hb e => c (by rw [← List.mem_singleton.mp hb, ← e]; exact ha)⟩) fun x hx => by
            rcases List.mem_append.mp hx with hx | hx
            · exact hT.sub x hx
            · rw [List.mem_singleton.mp hx]
              exact hT.nx
        rw [List.length_append] at this
        have : t.length + 1 ≤ (n0 :: rest).length := this
        omega
      refine iteT ⟨fun σ' H' => Same H H' ∧ ∃ (t : List Str) (n : Str), (m - 1) + t.length = 17 ∧ Trail (wt us) (n0 :: rest) t n ∧ H' D = some (.lst (t.map V.str)) ∧ σ' = [some (.ref p), some (.ref l), some (.ref D), some (.str n), none],
        fun σ' H' h => ⟨m - 1, by omega, h⟩, ?_⟩
      refine ⟨_, rfl, .inl ⟨rfl, _, SqL.of w2⟩, _, rfl, D, _, _, rfl, rfl, w2, by rw [List.length_map]; exact small1000 (by omega), ?_⟩
      generalize hE3 : upd H2 D _ = H3
      have w3 : H3 D = some (.lst ((t ++ [n]).map V.str)) := by
        rw [List.map_append]
        exact new_at hE3
      have m3 := mut_keep hE3
      have s3 := Same.own s2 m3 nD
      have hS3 := hS.same s3
      obtain ⟨dx, d, kv0, hp, _⟩ := id hS3
      refine ⟨_, rfl, p, dx, _, rfl, hp, rfl, _, rfl, p, n, us, rfl, hS3, hN, hsub n hT.nx, fun wl H4 nwl s4 wwl => ?_⟩
      refine ⟨wl, rfl, ⟨_, SqL.of wwl⟩, fun D2 nD2 => ?_⟩
      refine lc_list (xs := (wt us n).map V.str) (fun j H' => Same H4 H' ∧ H' D2 = some (.lst ((((wt us n).take j).filter fun o => decide (o ∈ n0 :: rest)).map V.str))) ⟨same_upd nD2, upd_same⟩ (fun j H' _ h => SqL.of (h.1 _ _ wwl)) ?_ ?_
      · rintro j x H5 hj ⟨s5, w5⟩
        obtain ⟨o, hoo, rfl⟩ := map_str_get hj
        refine ⟨rfl, _, rfl, _, rfl, l, _, rfl, .inl (SqL.of (((s3.trans s4).trans s5) _ _ hl)), rfl, strs_flat _, _, rfl, ?_⟩
        rw [take_filter_snoc _ hoo, inV_str]
        by_cases c : o ∈ n0 :: rest
        · rw [decide_eq_true c]
          refine iteT ⟨_, rfl, _, w5, ?_, Same.own (q := D2) s5 (mut_keep rfl) nD2, ?_⟩
          · rw [List.length_map]
            refine Nat.lt_of_le_of_lt (List.length_filter_le _ _) (Nat.lt_of_le_of_lt (List.length_take_le' ..) (Nat.lt_of_le_of_lt (List.length_filter_le _ _) (small1000 ?_)))
            rw [srt_len]
            have := hN.len
            omega
          · rw [upd_same, if_pos rfl, List.map_append]
            rfl
        · rw [decide_eq_false c]
          refine iteF ⟨s5, ?_⟩
          rw [if_neg Bool.false_ne_true, List.append_nil]
          exact w5
      rintro H5 ⟨s5, w5⟩
      rw [List.length_map, List.take_length] at w5
      obtain ⟨o, ho, hos⟩ := hst n hT.nx
      have hmem : ∀ x ∈ (wt us n).filter fun o => decide (o ∈ n0 :: rest), x ∈ wt us n ∧ x ∈ n0 :: rest := fun x hx => ⟨(List.mem_filter.mp hx).1, of_decide_eq_true (List.mem_filter.mp hx).2⟩
      have hne2 : o ∈ (wt us n).filter fun o => decide (o ∈ n0 :: rest) := List.mem_filter.mpr ⟨ho, decide_eq_true hos⟩
      generalize (wt us n).filter (fun o => decide (o ∈ n0 :: rest)) = fs at w5 hmem hne2
      obtain ⟨f0, fr, rfl⟩ := List.exists_cons_of_ne_nil (List.ne_nil_of_mem hne2)
      obtain ⟨h1, h2⟩ := hmem f0 (List.mem_cons_self ..)
      refine ⟨D2, _, _, _, rfl, rfl, SqL.of w5, at0, ?_⟩
      refine ⟨s3.trans (s4.trans s5), t ++ [n], f0, ?_, hT.more c h2 h1, s5 _ _ (s4 _ _ w3), rfl⟩
      rw [List.length_append]
      show m - 1 + (t.length + 1) = 17
      omega
def sp_knot_in (K : PySem.W.Frag) : Sp := fun vs H Q _ => ∃ (p l : Addr) (us : List (Str × UF)) (ns : List Str), vs = [.ref p, .ref l] ∧ ShelfAt K H p us ∧ Nms us ∧ (∀ w, w ∉ wt us w) ∧ H l = some (.lst (ns.map V.str)) ∧ ns.Nodup ∧ (∀ n ∈ ns, n ∈ us.map (·.1)) ∧
  ∀ v H', Same H H' → ((v = .non ∧ ¬ Knotted (wt us) ns) ∨ ∃ r D, v = .ref D ∧ H D = none ∧ H' D = some (.lst (r.map V.str)) ∧ IsRing (wt us) ns r ∧ Knotted (wt us) ns) → Q v H'
theorem ok_knot_in (T : Txt K mg) : FnOk P w K mg base CX0 5 (He.fAd K ("knot_in", none)) T.d_knot_in ["shelf", "names"] (sp_knot_in K) := by
  refine T.F_knot_in.ok sc_knot_in (fun vs H Q E h => ?_) (fun cdv A outer s H vs Q E hr h => ?_)
  · obtain ⟨p, l, us, ns, rfl, _⟩ := h
    rfl
  · obtain ⟨p, l, us, ns, rfl, hS, hN, self, hl, hn, hsub, q⟩ := h
    refine ⟨_, PSs.nox (pss_cons (ps_set (i := 2) sc_knot_in.nd rfl (Or.inr rfl) (pe_call (ok_free_order T) (hr.mono (by decide)) (by rfl) T.m_free_order T.F_free_order.kp T.b_free_order .nil pass0 (pa_cons (pv 0) (pa_cons (pv 1) pa_nil))))
      (pss_cons (ps_setLc (i := 3) (own := [("name", 4)]) (by rfl) sc_knot_in.nd rfl rfl (sw_true rfl rfl rfl (by decide +kernel)) (pi_list (pv 1)) (blkOk_by (own := [("name", 4)]) (N := N_knot_in) (sc := defScope s_knot_in) (by decide +kernel)) (fun _ _ _ _ _ => (pg_name (i := 4) sc_knot_in.nd rfl (Or.inl rfl))) (fun _ _ _ _ _ => (pts_one (pt_cmpR (r := rIn K true) op_notIn_seq (pv 4) (pv 2) (by rfl)))) (fun _ _ _ _ _ => (pv 4)))
      (pss_one (ps_ret (pe_ifExp (pt_cmpR op_gt (pe_callB (id := "len")  call_len_seq (by rfl) T.n_len (by decide +kernel) (pa_cons (pv 3) pa_nil)) pe_int (nomark _)) (pe_call (ok_ring_in T) (hr.mono (by decide)) (by rfl) T.m_ring_in T.F_ring_in.kp T.b_ring_in .nil pass0 (pa_cons (pv 0) (pa_cons (pv 3) pa_nil))) pe_non))))), ?_⟩
    have few : ns.length ≤ 16 := Nat.le_trans (nodup_le ns _ hn hsub) hN.len
    refine ⟨_, rfl, _, rfl, p, l, us, ns, rfl, hS, hN, hl, hn, hsub, fun order D H1 s1 nD w1 hf hfin => ?_⟩
    -- stuck
    refine ⟨_, rfl, l, rfl, ⟨_, SqL.of (s1 _ _ hl)⟩, fun D2 nD2 => ?_⟩
    refine lc_list (xs := ns.map V.str) (fun j H' => Same H1 H' ∧ H' D2 = some (.lst (((ns.take j).filter fun o => decide (o ∉ order)).map V.str))) ⟨same_upd nD2, upd_same⟩ (fun j H' _ h => SqL.of ((s1.trans h.1) _ _ hl)) ?_ ?_
    · rintro j x H2 hj ⟨s2, w2⟩
      obtain ⟨o, hoo, rfl⟩ := map_str_get hj
      refine ⟨rfl, _, rfl, _, rfl, D, _, rfl, .inl (SqL.of (s2 _ _ w1)), rfl, strs_flat _, _, rfl, ?_⟩
      show if (if true = true then !inV (.str o) (order.map V.str) else _) = true then _ else _
      rw [if_pos rfl, inV_str, take_filter_snoc _ hoo]
      by_cases c : o ∈ order
      · rw [decide_eq_true c]
        refine iteF ⟨s2, ?_⟩
        rw [if_neg (by rw [decide_eq_false (fun z => z c)]; exact Bool.false_ne_true), List.append_nil]
        exact w2
      · rw [decide_eq_false c]
        refine iteT ⟨_, rfl, _, w2, ?_, Same.own (q := D2) s2 (mut_keep rfl) nD2, ?_⟩
        · rw [List.length_map]
          exact Nat.lt_of_le_of_lt (List.length_filter_le _ _) (Nat.lt_of_le_of_lt (List.length_take_le' ..) (small1000 (by omega)))
        · rw [upd_same, if_pos (decide_eq_true c), List.map_append]
          rfl
    rintro H2 ⟨s2, w2⟩
    rw [List.length_map, List.take_length] at w2
    have hmem : ∀ x, x ∈ (ns.filter fun o => decide (o ∉ order)) ↔ x ∈ ns ∧ x ∉ order := fun x => by
      rw [List.mem_filter]
      exact ⟨fun ⟨a, b⟩ => ⟨a, of_decide_eq_true b⟩, fun ⟨a, b⟩ => ⟨a, decide_eq_true b⟩⟩
    have hnd2 : (ns.filter fun o => decide (o ∉ order)).Nodup := List.Nodup.sublist List.filter_sublist hn
    generalize ns.filter (fun o => decide (o ∉ order)) = st at w2 hmem hnd2
    have s12 := s1.trans s2
    refine ⟨_, rfl, D2, _, rfl, .inl (SqL.of w2), _, _, rfl, rfl, _, rfl, ?_⟩
    rw [List.length_map]
    by_cases c : st = []
    · subst c
      refine iteNd (by decide) ?_
      refine q _ H2 s12 (.inl ⟨rfl, hf.no fun n hns => ?_⟩)
      rcases Classical.em (n ∈ order) with z | z
      · exact z
      · exact absurd ((hmem n).mpr ⟨hns, z⟩) (by simp)
    · have hpos : 0 < st.length := List.length_pos_iff.mpr c
      have hstep : ∀ n ∈ st, ∃ o ∈ wt us n, o ∈ st := fun n hns => by
        obtain ⟨h1, h2⟩ := (hmem n).mp hns
        obtain ⟨o, ho, h3, h4⟩ := hfin n h1 h2
        exact ⟨o, ho, (hmem o).mpr ⟨h3, h4⟩⟩
      refine iteYd (by omega) ?_
      refine ⟨_, rfl, _, rfl, p, D2, us, st, rfl, hS.same s12, hN, self, w2, c, hnd2, fun n hns => hsub n ((hmem n).mp hns).1, hstep, fun r R H3 s3 nR w3 hR => ?_⟩
      refine q _ H3 (s12.trans s3) (.inr ⟨r, R, rfl, s12.free nR, w3, ⟨hR.two, hR.nd, fun n hnr => ((hmem n).mp (hR.sub n hnr)).1, hR.step⟩, st, c, fun n hns => ((hmem n).mp hns).1, hstep⟩)

-- SPLIT
/-! ### for whom a unit waits, by the facts -/
theorem catA_any {H : Hp} {a b : Addr} {xs ys : List V} {Q : VK} (ha : SqT K H a xs) (hb : SqT K H b ys) (hl : xs.length + ys.length ≤ sizeLine) (q : ∀ t H', Same H H' → (H t = none ∨ H' = H) → SqT K H' t (xs ++ ys) → Q (.ref t) H') : rCatA K (.ref a) (.ref b) H Q := by
  refine ⟨a, b, xs, ys, rfl, rfl, ha, hb, hl, fun e => ?_, fun _ e => ?_, fun _ _ p np => ?_⟩
  · subst e
    exact q b H (Same.refl _) (.inr rfl) hb
  · subst e
    refine q a H (Same.refl _) (.inr rfl) ?_
    rw [List.append_nil]
    exact ha
  · exact q p _ (same_upd np) (.inl np) (SqT.of upd_same)
def sp_law_waited (K : PySem.W.Frag) : Sp := fun vs H Q _ => ∃ (d : Addr) (w : Str) (kvs : List (Key × V)) (us : List (Str × UF)), vs = [.ref d, .str w] ∧ H d = some (.dK kvs) ∧ FTab K H kvs us ∧ Nms us ∧ (∀ p ∈ us, p.2.needs.length ≤ 100 ∧ p.2.after.length ≤ 100) ∧ w ∈ us.map (·.1) ∧
  ∀ l H', H l = none → Same H H' → H' l = some (.lst ((wt us w).map V.str)) → Q (.ref l) H'
theorem ok_law_waited (T : Txt K mg) : FnOk P w K mg base CX0 1 (He.fAd K ("_law_waited", none)) T.d_law_waited ["_law_facts_here", "_law_word"] (sp_law_waited K) := by
  refine T.F_law_waited.ok sc_law_waited (fun vs H Q E h => ?_) (fun cdv A outer s H vs Q E hr h => ?_)
  · obtain ⟨d, w, kvs, us, rfl, _⟩ := h
    rfl
  · obtain ⟨d, w, kvs, us, rfl, hd, ht, hN, hlen, hw, q⟩ := h
    refine ⟨_, PSs.nox (pss_cons (ps_set (i := 2) sc_law_waited.nd rfl (Or.inr rfl) (pe_op op_catA (pe_ix ix_tup (pe_dget (hu_of hr) (pv 0) (pv 1) (fun _ _ => rfl)) pe_int (fun _ _ => rfl)) (pe_ix ix_tup (pe_dget (hu_of hr) (pv 0) (pv 1) (fun _ _ => rfl)) pe_int (fun _ _ => rfl))))
      (pss_one (ps_ret (pe_callB (id := "sorted")  cr_sortedS (by rfl) T.n_sorted (by decide +kernel) (pa_cons (pe_lock (pe_lc (own := [("_law_one", 3)]) (by rfl) sc_law_waited.nd (pi_keys (pv 0)) (blkOk_by (own := [("_law_one", 3)]) (N := N_law_waited) (sc := defScope s_law_waited) (by decide +kernel)) (fun _ _ _ _ _ => (pg_name (i := 3) sc_law_waited.nd rfl (Or.inl rfl))) (fun _ _ _ _ _ => (pts_one (PW.pt (pw_or (pt_cmpR (r := rIn K false) op_in_seq (pv 3) (pv 2) (by rfl)) (pw_or1 (pt_cmpR op_eq (pe_ix (r := rIxT K) ix_tup (pe_dget (hu_of hr) (pv 0) (pv 3) (fun _ _ => rfl)) pe_int (fun _ _ => rfl)) (pv 1) (nomark _))))))) (fun _ _ _ _ _ => (pv 3)))) pa_nil))))), ?_⟩
    obtain ⟨u, hfu, hu⟩ := fu_of hw hN.nd
    obtain ⟨v, hv, t, n1, n2, n3, n4, g, rfl, wt0, wn1, wn2, wn3, wn4, hg⟩ := ht.get hN.nd (w, u) hu
    have hget : DGet H d (.str w) (some (.ref t)) := by
      rw [← hv]
      exact DGet.k (k := Sum.inr w) hd
    obtain ⟨l1, l2⟩ := hlen _ hu
    refine ⟨_, rfl, _, rfl, d, _, rfl, hget, t, _, _, _, rfl, rfl, wt0, at1, _, rfl, _, rfl, d, _, rfl, hget, t, _, _, _, rfl, rfl, wt0, at4, ?_⟩
    refine catA_any wn1 wn4 (by rw [List.length_map, List.length_map]; exact Nat.le_of_lt (small1000 (by omega))) fun tn H1 s1 _ wtn => ?_
    rw [← List.map_append] at wtn
    have hd1 := s1 _ _ hd
    have ht1 := FTab.same ht s1
    refine ⟨d, _, hd1, trivial, fun od => ?_⟩
    generalize hE2 : upd H1 d _ = H2
    have wd := new_at hE2
    have m2 := mut_keep hE2
    have ht2 := FTab.keep ht1 m2 (.dK hd1)
    have wtn2 := m2.tup (.dK hd1) wtn
    refine ⟨_, rfl, d, od, rfl, .inl ⟨kvs, wd, fun D nD => ?_⟩⟩
    have ndD : d ≠ D := ne_some wd nD
    have few := hN.few
    refine lc_it walk_keys (fun i H' => Same H2 H' ∧ H' D = some (.lst ((((us.map (·.1)).take i).filter (waitsB us w)).map V.str))) ⟨same_upd nD, upd_same⟩ (fun i H' _ h => h.1 _ _ wd) ?_ ?_
    · rintro i x H3 H3' hi ⟨s3, w3⟩ ⟨rfl, k, v, hk, rfl⟩
      obtain ⟨o, uo, rfl, huo, r⟩ := ht2.at hk
      have hoo : (us.map (·.1))[i]? = some o := by rw [List.getElem?_map, huo]; rfl
      have huom := List.mem_of_getElem? huo
      have hfo : fu us o = some uo := fu_some hN.nd huom
      have wb : waitsB us w o = (decide (o ∈ u.needs ++ u.after) || decide (uo.opens = some w)) := by
        unfold waitsB
        rw [hfu, hfo]
        show (decide (o ∈ u.needs) || (decide (o ∈ u.after) || decide (uo.opens = some w))) = _
        rw [← Bool.or_assoc]
        congr 1
        by_cases c1 : o ∈ u.needs
        · rw [decide_eq_true c1, decide_eq_true (List.mem_append_left _ c1), Bool.true_or]
        · rw [decide_eq_false c1, Bool.false_or]
          exact decide_eq_decide.mpr ⟨List.mem_append_right _, fun z => (List.mem_append.mp z).resolve_left c1⟩
      have hll : ((((us.map (·.1)).take i).filter (waitsB us w)).map V.str).length < sizeLine := by
        rw [List.length_map]
        refine Nat.lt_of_le_of_lt (List.length_filter_le _ _) (Nat.lt_of_le_of_lt (List.length_take_le' ..) (small1000 ?_))
        rw [List.length_map]
        omega
      have yes : waitsB us w o = true → Same H2 (upd H3' D (.lst (((((us.map (·.1)).take i).filter (waitsB us w)).map V.str) ++ [.str o]))) ∧ (upd H3' D (.lst (((((us.map (·.1)).take i).filter (waitsB us w)).map V.str) ++ [.str o]))) D = some (.lst ((((us.map (·.1)).take (i + 1)).filter (waitsB us w)).map V.str)) := fun c => by
        refine ⟨Same.own (q := D) s3 (mut_keep rfl) nD, ?_⟩
        rw [upd_same, take_filter_snoc _ hoo, if_pos c, List.map_append]
        rfl
      have no : waitsB us w o = false → Same H2 H3' ∧ H3' D = some (.lst ((((us.map (·.1)).take (i + 1)).filter (waitsB us w)).map V.str)) := fun c => by
        refine ⟨s3, ?_⟩
        rw [take_filter_snoc _ hoo, if_neg (by rw [c]; exact Bool.false_ne_true), List.append_nil]
        exact w3
      refine ⟨rfl, _, rfl, _, rfl, tn, _, rfl, .inr (tup_same s3 wtn2), rfl, strs_flat _, _, rfl, ?_⟩
      rw [show inV (kV (Sum.inr o)) ((u.needs ++ u.after).map V.str) = decide (o ∈ u.needs ++ u.after) from inV_str _ _]
      by_cases c1 : o ∈ u.needs ++ u.after
      · rw [decide_eq_true c1] at wb ⊢
        exact iteT (iteT ⟨_, rfl, _, w3, hll, yes (by rw [wb]; rfl)⟩)
      rw [decide_eq_false c1] at wb ⊢
      obtain ⟨v2, hv2, t2, o1, o2, o3, o4, g2, rfl, wo0, _⟩ := ht2.get hN.nd (o, uo) huom
      refine iteF ⟨_, rfl, _, rfl, d, .ref t2, rfl, by rw [← hv2]; exact .inl ⟨kvs, Sum.inr o, .inr ⟨od, s3 _ _ wd⟩, rfl, rfl⟩, t2, _, _, _, rfl, rfl, tup_same s3 wo0, at5, _, rfl, scal_optV uo.opens (some w), _, rfl, ?_⟩
      rw [show decide (optV uo.opens = V.str w) = decide (uo.opens = some w) from dec_optV (y := some w)]
      by_cases c3 : uo.opens = some w
      · rw [decide_eq_true c3] at wb ⊢
        exact iteT ⟨_, rfl, _, w3, hll, yes (by rw [wb]; rfl)⟩
      · rw [decide_eq_false c3] at wb ⊢
        exact iteF (no (by rw [wb]; rfl))
    rintro H3 ⟨s3, w3⟩
    rw [ht.len, show us.length = (us.map (·.1)).length by rw [List.length_map], List.take_length] at w3
    have wd3 := s3 _ _ wd
    refine ⟨wd3, ?_⟩
    generalize hE4 : upd H3 d _ = H4
    have m4 := mut_keep hE4
    have s14 : Same H1 H4 := fun c o e => by
      by_cases c0 : c = d
      · subst c0
        rw [hd1] at e
        cases e
        exact new_at hE4
      · exact m4 _ _ (s3 _ _ (m2 _ _ e c0)) c0
    have w4 := m4 _ _ w3 ndD.symm
    refine ⟨D, _, rfl, SqL.of w4, ?_, fun ys p hy hs np => ?_⟩
    · refine Nat.lt_of_le_of_lt (List.length_filter_le _ _) ?_
      rw [List.length_map]
      omega
    obtain rfl := srt_of hy hs
    rw [srt_filter] at *
    exact q p _ ((s1.trans s14).free np) ((s1.trans s14).trans (same_upd np)) upd_same

-- SPLIT
/-! ### the law's own removal -/
def sp_law_knotted (K : PySem.W.Frag) : Sp := fun vs H Q _ => ∃ (d l : Addr) (us : List (Str × UF)) (ns : List Str), vs = [.ref d, .ref l] ∧ LF K H d us ∧ H l = some (.lst (ns.map V.str)) ∧ ns.length ≤ 16 ∧ (∀ n ∈ ns, n ∈ us.map (·.1)) ∧
  ∀ left D H', Same H H' → H D = none → H' D = some (.lst (left.map V.str)) → (∀ x ∈ left, PyData.strOk x = true) → (left = [] ↔ ¬ Knotted (wt us) ns) → Q (.ref D) H'
theorem ok_law_knotted (T : Txt K mg) : FnOk P w K mg base CX0 2 (He.fAd K ("_law_knotted", none)) T.d_law_knotted ["_law_facts_here", "_law_some_here"] (sp_law_knotted K) := by
  refine T.F_law_knotted.ok sc_law_knotted (fun vs H Q E h => ?_) (fun cdv A outer s H vs Q E hr h => ?_)
  · obtain ⟨d, l, us, ns, rfl, _⟩ := h
    rfl
  · obtain ⟨d, l, us, ns, rfl, hF, hl, few, hsub, q⟩ := h
    refine ⟨_, PSs.nox (pss_cons (ps_set (i := 2) sc_law_knotted.nd rfl (Or.inr rfl) (pe_callTy (T := "list")  call_list_of (by rfl) T.n_list (by decide +kernel) (pa_cons (pv 1) pa_nil)))
      (pss_cons (ps_for PassesOwn.never rfl (pi_range1 (by rfl) T.n_range (pa_cons (pe_callB (id := "len")  call_len_seq (by rfl) T.n_len (by decide +kernel) (pa_cons (pv 2) pa_nil)) pa_nil)) (pg_name (i := 3) sc_law_knotted.nd rfl (Or.inl rfl))
      (pss_one (ps_set (i := 2) sc_law_knotted.nd rfl (Or.inr rfl) (pe_lc (own := [("_law_word", 4)]) (by rfl) sc_law_knotted.nd (pi_list (pv 2)) (blkOk_by (own := [("_law_word", 4)]) (N := N_law_knotted) (sc := defScope s_law_knotted) (by decide +kernel)) (fun _ _ _ _ _ => (pg_name (i := 4) sc_law_knotted.nd rfl (Or.inl rfl))) (fun _ _ _ _ _ => (pts_one (pt_cmpR (r := rIn K false) op_in_seq pe_bl (pe_lc (own := [("_law_one", 5)]) (by rfl) sc_law_knotted.nd (UP.pi_listK (K := K) (by rfl) (pe_call (ok_law_waited T) (hr.mono (by decide)) (by rfl) T.m_law_waited T.F_law_waited.kp T.b_law_waited .nil pass0 (pa_cons (pv 0) (pa_cons (pv 4) pa_nil)))) (blkOk_by (own := [("_law_one", 5)]) (N := N_law_knotted) (sc := _) (by rfl)) (fun _ _ _ _ _ => (pg_name (i := 5) sc_law_knotted.nd rfl (Or.inl rfl))) (fun _ _ _ _ _ => pts_nil) (fun _ _ _ _ _ => (pe_cmpR (r := rIn K false) op_in_seq (pv 5) (pv 2) (by rfl)))) (by rfl)))) (fun _ _ _ _ _ => (pv 4))))))
      (pss_one (ps_ret (pv 2))))), ?_⟩
    refine ⟨_, rfl, l, _, rfl, .inl (SqL.of hl), fun D nD => ?_⟩
    generalize hE1 : upd H D _ = H1
    have w1 := new_at hE1
    have s1 := new_same hE1 nD
    refine ⟨_, rfl, D, _, rfl, .inl (SqL.of w1), ?_⟩
    rw [List.length_map]
    refine ⟨_, rfl, by omega, by omega, for_range (lo := 0) (n := ns.length) (fun i σ H' => Same H H' ∧ ∃ (E : Addr) (y1 y2 y3 : Option V), H E = none ∧ H' E = some (.lst ((rsteps (wt us) i ns).map V.str)) ∧ σ = [some (.ref d), some (.ref l), some (.ref E), y1, y2, y3])
      ⟨s1, D, none, none, none, nD, w1, rfl⟩ ?_ ?_⟩
    · rintro i σ H2 hi ⟨s2, E, y1, y2, y3, nE, w2, rfl⟩
      refine ⟨_, rfl, E, rfl, ⟨_, SqL.of w2⟩, fun D2 nD2 => ?_⟩
      have nED : E ≠ D2 := ne_some w2 nD2
      generalize hcur : rsteps (wt us) i ns = cur at w2
      have hcs : ∀ n ∈ cur, n ∈ ns := fun n hn => rsteps_sub (W := wt us) i n (hcur ▸ hn)
      have hcl : cur.length ≤ 16 := by
        rw [← hcur]
        have : ∀ k, (rsteps (wt us) k ns).length ≤ ns.length := fun k => by
          induction k with
          | zero => exact Nat.le_refl _
          | succ k ih => exact Nat.le_trans (List.length_filter_le _ _) ih
        exact Nat.le_trans (this i) few
      refine lc_list (xs := cur.map V.str) (fun j H' => Same H2 H' ∧ H' D2 = some (.lst (((cur.take j).filter fun n => (wt us n).any fun o => decide (o ∈ cur)).map V.str))) ⟨same_upd nD2, upd_same⟩ (fun j H' _ h => SqL.of (h.1 _ _ w2)) ?_ ?_
      · rintro j x H3 hj ⟨s3, w3⟩
        obtain ⟨n, hnm, rfl⟩ := map_str_get hj
        have hns := hcs n (List.mem_of_getElem? hnm)
        have s23 := s2.trans s3
        refine ⟨rfl, ?_⟩
        have hF3 := hF.same s23
        obtain ⟨kvs, hk1, hk2⟩ := hF3.ex
        refine ⟨_, rfl, _, rfl, d, n, kvs, us, rfl, hk1, hk2, hF.nms, hF.few, hsub n hns, fun wl H4 nwl s4 wwl => ?_⟩
        refine ⟨wl, rfl, ⟨_, SqL.of wwl⟩, fun D3 nD3 => ?_⟩
        refine lc_list (xs := (wt us n).map V.str) (fun j H' => Same H4 H' ∧ H' D3 = some (.lst (((wt us n).take j).map fun o => V.bl (decide (o ∈ cur))))) ⟨same_upd nD3, upd_same⟩ (fun j H' _ h => SqL.of (h.1 _ _ wwl)) ?_ ?_
        · rintro k x H5 hk ⟨s5, w5⟩
          obtain ⟨o, hoo, rfl⟩ := map_str_get hk
          refine ⟨rfl, yes_of (iteT ?_)⟩
          refine ⟨_, rfl, _, rfl, E, _, rfl, .inl (SqL.of ((s3.trans (s4.trans s5)) _ _ w2)), rfl, strs_flat _, _, w5, ?_, Same.own (q := D3) s5 (mut_keep rfl) nD3, ?_⟩
          · rw [List.length_map]
            refine Nat.lt_of_le_of_lt (List.length_take_le' ..) (Nat.lt_of_le_of_lt (List.length_filter_le _ _) (small1000 ?_))
            rw [srt_len]
            have := hF.nms.len
            omega
          · rw [upd_same, take_snoc hoo, List.map_append]
            show some (HO.lst (_ ++ [V.bl (inV (.str o) (cur.map V.str))])) = _
            rw [inV_str]
            rfl
        rintro H5 ⟨s5, w5⟩
        rw [List.length_map, List.take_length] at w5
        have w5' : H5 D3 = some (.lst (((wt us n).map fun o => decide (o ∈ cur)).map V.bl)) := by
          rw [List.map_map]
          exact w5
        refine ⟨D3, _, rfl, .inl (SqL.of w5'), rfl, bls_flat _, _, rfl, ?_⟩
        rw [inV_bl, take_filter_snoc _ hnm]
        have e : ((wt us n).map fun o => decide (o ∈ cur)).any id = (wt us n).any fun o => decide (o ∈ cur) := by
          rw [List.any_map]
          rfl
        have s35 := s4.trans s5
        have w3' := s35 _ _ w3
        rw [e]
        cases hb : (wt us n).any fun o => decide (o ∈ cur)
        · refine iteF ⟨s3.trans s35, ?_⟩
          rw [if_neg Bool.false_ne_true, List.append_nil]
          exact w3'
        · refine iteT ⟨_, rfl, _, w3', ?_, Same.own (q := D2) (s3.trans s35) (mut_keep rfl) nD2, ?_⟩
          · rw [List.length_map]
            exact Nat.lt_of_le_of_lt (List.length_filter_le _ _) (Nat.lt_of_le_of_lt (List.length_take_le' ..) (small1000 (by omega)))
          · rw [upd_same, if_pos rfl, List.map_append]
            rfl
      rintro H3 ⟨s3, w3⟩
      rw [List.length_map, List.take_length] at w3
      refine ⟨s2.trans s3, D2, _, _, _, s2.free nD2, ?_, rfl⟩
      show H3 D2 = some (.lst ((rstep (W := wt us) (rsteps (wt us) i ns)).map V.str))
      rw [hcur]
      exact w3
    · rintro σ H2 ⟨s2, E, y1, y2, y3, nE, w2, rfl⟩
      exact ⟨_, rfl, q _ E H2 s2 nE w2 (fun x hx => (hF.nms.nm x (hsub x (rsteps_sub _ x hx))).ok) rsteps_knot⟩

-- SPLIT
/-! ### what follows at once -/
abbrev onS : Str := Str.ofString "on"
abbrev offS : Str := Str.ofString "off"
theorem ok_off : PyData.strOk offS = true := by decide +kernel
theorem ok_on : PyData.strOk onS = true := by decide +kernel
def needB (us : List (Str × UF)) (w o : Str) : Bool := match fu us o with
  | some v => decide (w ∈ v.needs)
  | none => false
def barB (us : List (Str × UF)) (w o : Str) : Bool := match fu us w, fu us o with
  | some u, some v => decide (o ∈ u.bars) || decide (w ∈ v.bars)
  | _, _ => false
def nd (us : List (Str × UF)) (w : Str) : List Str := (srt (us.map (·.1))).filter (needB us w)
def br (us : List (Str × UF)) (w : Str) : List Str := (srt (us.map (·.1))).filter (barB us w)
def ned (us : List (Str × UF)) (w : Str) : List Str := match fu us w with
  | some u => u.needs.filter fun x => decide (x ∈ us.map (·.1))
  | none => []
def ao (us : List (Str × UF)) (d : Str × Str) : List (Str × Str) :=
  if d.2 = offS then (nd us d.1).map (·, offS) else srtP ((ned us d.1).map (·, onS) ++ (br us d.1).map (·, offS))
theorem filt_len {us : List (Str × UF)} (h : Nms us) (f : Str → Bool) : ((srt (us.map (·.1))).filter f).length ≤ 16 := by
  refine Nat.le_trans (List.length_filter_le _ _) ?_
  rw [srt_len]
  exact h.len
def sp_Shelf_needing (K : PySem.W.Frag) : Sp := fun vs H Q _ => ∃ (p : Addr) (w : Str) (us : List (Str × UF)), vs = [.ref p, .str w] ∧ ShelfAt K H p us ∧ Nms us ∧ w ∈ us.map (·.1) ∧
  ∀ l H', H l = none → Same H H' → H' l = some (.lst ((nd us w).map V.str)) → Q (.ref l) H'
theorem ok_Shelf_needing (T : Txt K mg) : FnOk P w K mg base CX0 3 (He.fAd K ("Shelf", some "needing")) T.d_Shelf_needing ["self", "name"] (sp_Shelf_needing K) := by
  refine T.F_Shelf_needing.ok sc_Shelf_needing (fun vs H Q E h => ?_) (fun cdv A outer s H vs Q E hr h => ?_)
  · obtain ⟨p, w, us, rfl, _⟩ := h
    rfl
  · obtain ⟨p, w, us, rfl, hS, hN, hw, q⟩ := h
    refine ⟨_, PSs.nox (pss_cons (ps_expr (pe_meth (pv 0) T.cl_Shelf T.me_Shelf_unit (ok_Shelf_unit T) (hr.mono (by decide)) T.b_Shelf_unit .nil pass0 (pa_cons (pv 1) pa_nil)))
      (pss_one (ps_ret (pe_lc (own := [("other", 2)]) (by rfl) sc_Shelf_needing.nd (pi_list (pe_meth0 (pv 0) T.cl_Shelf T.me_Shelf_names (ok_Shelf_names T) (hr.mono (by decide)) T.b_Shelf_names .nil pass0)) (blkOk_by (own := [("other", 2)]) (N := N_Shelf_needing) (sc := defScope s_Shelf_needing) (by decide +kernel)) (fun _ _ _ _ _ => (pg_name (i := 2) sc_Shelf_needing.nd rfl (Or.inl rfl))) (fun _ _ _ _ _ => by exact (pts_one (pt_cmpR (r := rIn K false) op_in_seq (pv 1) (UP.pe_fldK (K := K) (by rfl) (pe_dget (hu_of hr) (UP.pe_fldK (K := K) (by rfl) (pv 0) (by rfl)) (pv 2) (fun _ _ => rfl)) (by rfl)) (by rfl)))) (fun _ _ _ _ _ => (pv 2)))))), ?_⟩
    obtain ⟨dx, d, kvs, hp, hd, ht⟩ := id hS
    refine ⟨_, rfl, p, dx, _, rfl, hp, rfl, _, rfl, p, w, us, rfl, hS, hN, hw, fun a u hu hA => ?_⟩
    refine ⟨_, rfl, p, dx, _, rfl, hp, rfl, p, us, rfl, hS, hN, fun l H1 nl s1 wl => ?_⟩
    refine ⟨l, rfl, ⟨_, SqL.of wl⟩, fun D nD => ?_⟩
    refine lc_list (xs := (srt (us.map (·.1))).map V.str) (fun i H' => Same H1 H' ∧ H' D = some (.lst ((((srt (us.map (·.1))).take i).filter (needB us w)).map V.str))) ⟨same_upd nD, upd_same⟩ (fun i H' _ h => SqL.of (h.1 _ _ wl)) ?_ ?_
    · rintro i x H2 hi ⟨s2, w2⟩
      obtain ⟨o, ho, rfl⟩ := map_str_get hi
      have hom : o ∈ us.map (·.1) := srt_mem.mp (List.mem_of_getElem? ho)
      obtain ⟨v, hfo, hv⟩ := fu_of hom hN.nd
      have wb : needB us w o = decide (w ∈ v.needs) := by
        unfold needB
        rw [hfo]
      have s12 := s1.trans s2
      obtain ⟨ov, hov, b, rfl, hB⟩ := ht.get hN.nd (o, v) hv
      obtain ⟨dxv, m1, m2, m3, m4, r2, hb, hm1, _⟩ := id hB
      refine ⟨rfl, _, rfl, _, rfl, p, _, dx, _, _, rfl, s12 _ _ hp, T.cl_Shelf, T.na_Shelf_by_name, rfl, _, rfl, d, .ref b, rfl, by rw [← hov]; exact DGet.k (k := Sum.inr o) (s12 _ _ hd), b, _, dxv, _, _, rfl, s12 _ _ hb, T.cl_Unit, T.na_Unit_needs, rfl, m1, _, rfl, .inr (tup_same s12 hm1), rfl, strs_flat _, _, rfl, ?_⟩
      rw [inV_str, take_filter_snoc _ ho, wb]
      by_cases c : w ∈ v.needs
      · rw [decide_eq_true c]
        refine iteT ⟨_, rfl, _, w2, ?_, Same.own (q := D) s2 (mut_keep rfl) nD, ?_⟩
        · rw [List.length_map]
          refine Nat.lt_of_le_of_lt (List.length_filter_le _ _) (Nat.lt_of_le_of_lt (List.length_take_le' ..) (small1000 ?_))
          rw [srt_len]
          have := hN.len
          omega
        · rw [upd_same, if_pos rfl, List.map_append]
          rfl
      · rw [decide_eq_false c]
        refine iteF ⟨s2, ?_⟩
        rw [if_neg Bool.false_ne_true, List.append_nil]
        exact w2
    · rintro H2 ⟨s2, w2⟩
      rw [List.length_map, List.take_length] at w2
      exact q D H2 (s1.free nD) (s1.trans s2) w2
def sp_Shelf_barred (K : PySem.W.Frag) : Sp := fun vs H Q _ => ∃ (p : Addr) (w : Str) (us : List (Str × UF)), vs = [.ref p, .str w] ∧ ShelfAt K H p us ∧ Nms us ∧ w ∈ us.map (·.1) ∧
  ∀ l H', H l = none → Same H H' → H' l = some (.lst ((br us w).map V.str)) → Q (.ref l) H'
theorem ok_Shelf_barred (T : Txt K mg) : FnOk P w K mg base CX0 3 (He.fAd K ("Shelf", some "barred")) T.d_Shelf_barred ["self", "name"] (sp_Shelf_barred K) := by
  refine T.F_Shelf_barred.ok sc_Shelf_barred (fun vs H Q E h => ?_) (fun cdv A outer s H vs Q E hr h => ?_)
  · obtain ⟨p, w, us, rfl, _⟩ := h
    rfl
  · obtain ⟨p, w, us, rfl, hS, hN, hw, q⟩ := h
    refine ⟨_, PSs.nox (pss_cons (ps_set (i := 2) sc_Shelf_barred.nd rfl (Or.inr rfl) (pe_fld (pe_meth (pv 0) T.cl_Shelf T.me_Shelf_unit (ok_Shelf_unit T) (hr.mono (by decide)) T.b_Shelf_unit .nil pass0 (pa_cons (pv 1) pa_nil)) rfl))
      (pss_one (ps_ret (pe_lc (own := [("other", 3)]) (by rfl) sc_Shelf_barred.nd (pi_list (pe_meth0 (pv 0) T.cl_Shelf T.me_Shelf_names (ok_Shelf_names T) (hr.mono (by decide)) T.b_Shelf_names .nil pass0)) (blkOk_by (own := [("other", 3)]) (N := N_Shelf_barred) (sc := defScope s_Shelf_barred) (by decide +kernel)) (fun _ _ _ _ _ => (pg_name (i := 3) sc_Shelf_barred.nd rfl (Or.inl rfl))) (fun _ _ _ _ _ => by exact (pts_one (PW.pt (pw_or (pt_cmpR (r := rIn K false) op_in_seq (pv 3) (pv 2) (by rfl)) (pw_or1 (pt_cmpR (r := rIn K false) op_in_seq (pv 1) (UP.pe_fldK (K := K) (by rfl) (pe_dget (hu_of hr) (UP.pe_fldK (K := K) (by rfl) (pv 0) (by rfl)) (pv 3) (fun _ _ => rfl)) (by rfl)) (by rfl))))))) (fun _ _ _ _ _ => (pv 3)))))), ?_⟩
    obtain ⟨dx, d, kvs, hp, hd, ht⟩ := id hS
    refine ⟨_, rfl, p, dx, _, rfl, hp, rfl, _, rfl, p, w, us, rfl, hS, hN, hw, fun a u hu hA => ?_⟩
    have hfu : fu us w = some u := fu_some hN.nd hu
    obtain ⟨dxu, n1, n2, n3, n4, r, ha, hn1, hn2, hn3, hn4, _⟩ := id hA
    refine ⟨a, _, dxu, _, _, rfl, ha, T.cl_Unit, T.na_Unit_bars, rfl, ?_⟩
    refine ⟨_, rfl, p, dx, _, rfl, hp, rfl, p, us, rfl, hS, hN, fun l H1 nl s1 wl => ?_⟩
    refine ⟨l, rfl, ⟨_, SqL.of wl⟩, fun D nD => ?_⟩
    refine lc_list (xs := (srt (us.map (·.1))).map V.str) (fun i H' => Same H1 H' ∧ H' D = some (.lst ((((srt (us.map (·.1))).take i).filter (barB us w)).map V.str))) ⟨same_upd nD, upd_same⟩ (fun i H' _ h => SqL.of (h.1 _ _ wl)) ?_ ?_
    · rintro i x H2 hi ⟨s2, w2⟩
      obtain ⟨o, ho, rfl⟩ := map_str_get hi
      have hom : o ∈ us.map (·.1) := srt_mem.mp (List.mem_of_getElem? ho)
      obtain ⟨v, hfo, hv⟩ := fu_of hom hN.nd
      have wb : barB us w o = (decide (o ∈ u.bars) || decide (w ∈ v.bars)) := by
        unfold barB
        rw [hfu, hfo]
      have s12 := s1.trans s2
      have hlen : ((((srt (us.map (·.1))).take i).filter (barB us w)).map V.str).length < sizeLine := by
        rw [List.length_map]
        refine Nat.lt_of_le_of_lt (List.length_filter_le _ _) (Nat.lt_of_le_of_lt (List.length_take_le' ..) (small1000 ?_))
        rw [srt_len]
        have := hN.len
        omega
      have yes : barB us w o = true → Same H1 (upd H2 D (.lst (((((srt (us.map (·.1))).take i).filter (barB us w)).map V.str) ++ [.str o]))) ∧ (upd H2 D (.lst (((((srt (us.map (·.1))).take i).filter (barB us w)).map V.str) ++ [.str o]))) D = some (.lst ((((srt (us.map (·.1))).take (i + 1)).filter (barB us w)).map V.str)) := fun c => by
        refine ⟨Same.own (q := D) s2 (mut_keep rfl) nD, ?_⟩
        rw [upd_same, take_filter_snoc _ ho, if_pos c, List.map_append]
        rfl
      refine ⟨rfl, _, rfl, _, rfl, n3, _, rfl, .inr (tup_same s12 hn3), rfl, strs_flat _, _, rfl, ?_⟩
      rw [inV_str]
      by_cases c1 : o ∈ u.bars
      · rw [decide_eq_true c1] at wb ⊢
        exact iteT (iteT ⟨_, rfl, _, w2, hlen, yes (by rw [wb]; rfl)⟩)
      rw [decide_eq_false c1] at wb ⊢
      obtain ⟨ov, hov, b, rfl, hB⟩ := ht.get hN.nd (o, v) hv
      obtain ⟨dxv, m1, m2, m3, m4, r2, hb, hm1, hm2, hm3, _⟩ := id hB
      refine iteF ⟨_, rfl, _, rfl, p, _, dx, _, _, rfl, s12 _ _ hp, T.cl_Shelf, T.na_Shelf_by_name, rfl, _, rfl, d, .ref b, rfl, by rw [← hov]; exact DGet.k (k := Sum.inr o) (s12 _ _ hd), b, _, dxv, _, _, rfl, s12 _ _ hb, T.cl_Unit, T.na_Unit_bars, rfl, m3, _, rfl, .inr (tup_same s12 hm3), rfl, strs_flat _, _, rfl, ?_⟩
      rw [inV_str]
      by_cases c3 : w ∈ v.bars
      · rw [decide_eq_true c3] at wb ⊢
        exact iteT ⟨_, rfl, _, w2, hlen, yes (by rw [wb]; rfl)⟩
      · rw [decide_eq_false c3] at wb ⊢
        refine iteF ⟨s2, ?_⟩
        rw [take_filter_snoc _ ho, if_neg (by rw [wb]; exact Bool.false_ne_true), List.append_nil]
        exact w2
    · rintro H2 ⟨s2, w2⟩
      rw [List.length_map, List.take_length] at w2
      exact q D H2 (s1.free nD) (s1.trans s2) w2
/-- one pair more -/
theorem pair_put {H1 H2 : Hp} {D t : Addr} {xs : List V} {ds : List (Str × Str)} {a b : Str} (s : Same H1 H2) (nD : H1 D = none) (w : H2 D = some (.lst xs)) (p : PrH H2 xs ds) (n : H2 t = none) :
    Same H1 (upd (upd H2 t (.tup [.str a, .str b])) D (.lst (xs ++ [.ref t]))) ∧ ∃ ys, (upd (upd H2 t (.tup [.str a, .str b])) D (.lst (xs ++ [.ref t]))) D = some (.lst ys) ∧ PrH (upd (upd H2 t (.tup [.str a, .str b])) D (.lst (xs ++ [.ref t]))) ys (ds ++ [(a, b)]) := by
  have st : Same H2 (upd H2 t (.tup [.str a, .str b])) := same_upd n
  have wD := st _ _ w
  have m : Kp D (upd H2 t (.tup [.str a, .str b])) (upd (upd H2 t (.tup [.str a, .str b])) D (.lst (xs ++ [.ref t]))) := mut_keep rfl
  refine ⟨Same.own (s.trans st) m nD, _, upd_same, ((p.same st).keep m (.lst wD)).app (.cons (d := (a, b)) (m _ _ upd_same (ne_some w n).symm) .nil)⟩
def sp_at_once (K : PySem.W.Frag) : Sp := fun vs H Q _ => ∃ (p t : Addr) (us : List (Str × UF)) (d : Str × Str), vs = [.ref p, .ref t] ∧ ShelfAt K H p us ∧ Nms us ∧ (∀ p ∈ us, p.2.needs.length ≤ 100) ∧ SqT K H t [.str d.1, .str d.2] ∧ d.1 ∈ us.map (·.1) ∧
  ∀ l xs H', H l = none → Same H H' → H' l = some (.lst xs) → PrH H' xs (ao us d) → Q (.ref l) H'
theorem ok_at_once (T : Txt K mg) : FnOk P w K mg base CX0 4 (He.fAd K ("at_once", none)) T.d_at_once ["shelf", "demand"] (sp_at_once K) := by
  refine T.F_at_once.ok sc_at_once (fun vs H Q E h => ?_) (fun cdv A outer s H vs Q E hr h => ?_)
  · obtain ⟨p, t, us, d, rfl, _⟩ := h
    rfl
  · obtain ⟨p, t, us, d, rfl, hS, hN, hF, ht, hd, q⟩ := h
    refine ⟨_, PSs.nox (pss_cons (ps_asg (pv 1) (pg_tup rfl (pgs_cons (pg_name (i := 2) sc_at_once.nd rfl (Or.inl rfl)) (pgs_cons (pg_name (i := 3) sc_at_once.nd rfl (Or.inl rfl)) pgs_nil))))
      (pss_cons (ps_if (pt_cmpR op_eq (pv 3) pe_str (nomark _))
      (pss_one (ps_ret (pe_lc (own := [("other", 6)]) (by rfl) sc_at_once.nd (pi_list (pe_meth (pv 0) T.cl_Shelf T.me_Shelf_needing (ok_Shelf_needing T) (hr.mono (by decide)) T.b_Shelf_needing .nil pass0 (pa_cons (pv 2) pa_nil))) (blkOk_by (own := [("other", 6)]) (N := N_at_once) (sc := defScope s_at_once) (by decide +kernel)) (fun _ _ _ _ _ => (pg_name (i := 6) sc_at_once.nd rfl (Or.inl rfl))) (fun _ _ _ _ _ => pts_nil) (fun _ _ _ _ _ => (pe_tup (pa_cons (pv 6) (pa_cons pe_str pa_nil)))))))
      pss_nil)
      (pss_cons (ps_setLc (i := 4) (own := [("other", 6)]) (by rfl) sc_at_once.nd rfl rfl (sw_true rfl rfl rfl (by decide +kernel)) (pi_tup (pe_fld (pe_meth (pv 0) T.cl_Shelf T.me_Shelf_unit (ok_Shelf_unit T) (hr.mono (by decide)) T.b_Shelf_unit .nil pass0 (pa_cons (pv 2) pa_nil)) rfl)) (blkOk_by (own := [("other", 6)]) (N := N_at_once) (sc := defScope s_at_once) (by decide +kernel)) (fun _ _ _ _ _ => (pg_name (i := 6) sc_at_once.nd rfl (Or.inl rfl))) (fun _ _ _ _ _ => by exact (pts_one (pt_val (pe_meth (pv 0) T.cl_Shelf T.me_Shelf_has (ok_Shelf_has T) (hr.mono (by decide)) T.b_Shelf_has .nil pass0 (pa_cons (pv 6) pa_nil))))) (fun _ _ _ _ _ => (pe_tup (pa_cons (pv 6) (pa_cons pe_str pa_nil)))))
      (pss_cons (ps_setLc (i := 5) (own := [("other", 6)]) (by rfl) sc_at_once.nd rfl rfl (sw_true rfl rfl rfl (by decide +kernel)) (pi_list (pe_meth (pv 0) T.cl_Shelf T.me_Shelf_barred (ok_Shelf_barred T) (hr.mono (by decide)) T.b_Shelf_barred .nil pass0 (pa_cons (pv 2) pa_nil))) (blkOk_by (own := [("other", 6)]) (N := N_at_once) (sc := defScope s_at_once) (by decide +kernel)) (fun _ _ _ _ _ => (pg_name (i := 6) sc_at_once.nd rfl (Or.inl rfl))) (fun _ _ _ _ _ => pts_nil) (fun _ _ _ _ _ => (pe_tup (pa_cons (pv 6) (pa_cons pe_str pa_nil)))))
      (pss_one (ps_ret (pe_callB (id := "sorted")  (UD.cr_sortP hr.units) (by rfl) T.n_sorted (by decide +kernel) (pa_cons (pe_op op_cat (pv 4) (pv 5)) pa_nil)))))))), ?_⟩
    refine ⟨_, rfl, t, _, rfl, ht, rfl, _, _, rfl, _, _, rfl, rfl, ?_⟩
    obtain ⟨dx, dd, kvs, hp, _⟩ := id hS
    refine ⟨_, rfl, rfl, _, rfl, ?_⟩
    by_cases c : d.2 = offS
    · rw [show decide (V.str d.2 = V.str offS) = true from decide_eq_true (by rw [c])]
      refine iteT ?_
      refine ⟨_, rfl, p, dx, _, rfl, hp, rfl, _, rfl, p, _, us, rfl, hS, hN, hd, fun l H1 nl s1 wl => ?_⟩
      refine ⟨l, rfl, ⟨_, SqL.of wl⟩, fun D nD => ?_⟩
      refine lc_list (xs := (nd us d.1).map V.str) (fun i H' => Same H1 H' ∧ ∃ xs, H' D = some (.lst xs) ∧ PrH H' xs (((nd us d.1).take i).map (·, offS))) ⟨same_upd nD, [], upd_same, .nil⟩ (fun i H' _ h => SqL.of (h.1 _ _ wl)) ?_ ?_
      · rintro i x H2 hi ⟨s2, xs, w2, p2⟩
        obtain ⟨o, ho, rfl⟩ := map_str_get hi
        refine ⟨rfl, yes_of (iteT ⟨_, rfl, by show 2 ≤ sizeLine; decide, fun t2 n2 => ⟨xs, same_upd n2 _ _ w2, ?_, ?_⟩⟩)⟩
        · rw [p2.len, List.length_map]
          exact Nat.lt_of_le_of_lt (List.length_take_le' ..) (Nat.lt_of_le_of_lt (filt_len hN _) (small1000 (by decide)))
        · rw [take_snoc ho, List.map_append]
          exact pair_put s2 nD w2 p2 n2
      · rintro H2 ⟨s2, xs, w2, p2⟩
        rw [List.length_map, List.take_length] at p2
        refine q D xs H2 (s1.free nD) (s1.trans s2) w2 ?_
        unfold ao
        rw [if_pos c]
        exact p2
    · rw [show decide (V.str d.2 = V.str offS) = false from decide_eq_false fun z => c (by injection z)]
      refine iteF ?_
      obtain ⟨u, hfu, hu⟩ := fu_of hd hN.nd
      have hned : ned us d.1 = u.needs.filter fun x => decide (x ∈ us.map (·.1)) := by
        unfold ned
        rw [hfu]
      -- needed
      refine ⟨_, rfl, p, dx, _, rfl, hp, rfl, _, rfl, p, _, us, rfl, hS, hN, hd, fun a u' hu' hA => ?_⟩
      obtain rfl : u' = u := Option.some.inj ((fu_some hN.nd hu').symm.trans hfu)
      obtain ⟨dxu, n1, n2, n3, n4, r, ha, hn1, _⟩ := id hA
      have hnl : u'.needs.length ≤ 100 := hF _ hu
      refine ⟨a, _, dxu, _, _, rfl, ha, T.cl_Unit, T.na_Unit_needs, rfl, n1, rfl, ⟨_, hn1⟩, fun D nD => ?_⟩
      refine lc_tup (xs := u'.needs.map V.str) (fun i H' => Same H H' ∧ ∃ xs, H' D = some (.lst xs) ∧ PrH H' xs (((u'.needs.take i).filter fun x => decide (x ∈ us.map (·.1))).map (·, onS))) ⟨same_upd nD, [], upd_same, .nil⟩ (fun i H' _ h => tup_same h.1 hn1) ?_ ?_
      · rintro i x H2 hi ⟨s2, xs, w2, p2⟩
        obtain ⟨o, ho, rfl⟩ := map_str_get hi
        have hp2 := s2 _ _ hp
        refine ⟨rfl, _, rfl, p, dx, _, rfl, hp2, rfl, _, rfl, p, o, us, rfl, hS.same s2, hN, _, rfl, ?_⟩
        rw [take_filter_snoc _ ho]
        by_cases c2 : o ∈ us.map (·.1)
        · rw [decide_eq_true c2]
          refine iteT ⟨_, rfl, by show 2 ≤ sizeLine; decide, fun t2 n2 => ⟨xs, same_upd n2 _ _ w2, ?_, ?_⟩⟩
          · rw [p2.len, List.length_map]
            exact Nat.lt_of_le_of_lt (List.length_filter_le _ _) (Nat.lt_of_le_of_lt (List.length_take_le' ..) (small1000 (by omega)))
          · rw [if_pos rfl, List.map_append]
            exact pair_put s2 nD w2 p2 n2
        · rw [decide_eq_false c2]
          refine iteF ⟨s2, xs, w2, ?_⟩
          rw [if_neg Bool.false_ne_true, List.append_nil]
          exact p2
      rintro H2 ⟨s2, xs, w2, p2⟩
      rw [List.length_map, List.take_length, ← hned] at p2
      -- barred
      have hp2 := s2 _ _ hp
      have hS2 := hS.same s2
      refine ⟨_, rfl, p, dx, _, rfl, hp2, rfl, _, rfl, p, _, us, rfl, hS2, hN, hd, fun l H3 nl s3 wl => ?_⟩
      refine ⟨l, rfl, ⟨_, SqL.of wl⟩, fun D2 nD2 => ?_⟩
      refine lc_list (xs := (br us d.1).map V.str) (fun i H' => Same H3 H' ∧ ∃ xs, H' D2 = some (.lst xs) ∧ PrH H' xs (((br us d.1).take i).map (·, offS))) ⟨same_upd nD2, [], upd_same, .nil⟩ (fun i H' _ h => SqL.of (h.1 _ _ wl)) ?_ ?_
      · rintro i x H4 hi ⟨s4, ys, w4, p4⟩
        obtain ⟨o, ho, rfl⟩ := map_str_get hi
        refine ⟨rfl, yes_of (iteT ⟨_, rfl, by show 2 ≤ sizeLine; decide, fun t2 n2 => ⟨ys, same_upd n2 _ _ w4, ?_, ?_⟩⟩)⟩
        · rw [p4.len, List.length_map]
          exact Nat.lt_of_le_of_lt (List.length_take_le' ..) (Nat.lt_of_le_of_lt (filt_len hN _) (small1000 (by decide)))
        · rw [take_snoc ho, List.map_append]
          exact pair_put s4 nD2 w4 p4 n2
      rintro H4 ⟨s4, ys, w4, p4⟩
      rw [List.length_map, List.take_length] at p4
      have s34 := s3.trans s4
      have l1 : (ned us d.1).length ≤ 100 := by
        rw [hned]
        exact Nat.le_trans (List.length_filter_le _ _) hnl
      have l2 : (br us d.1).length ≤ 16 := filt_len hN _
      -- sorted(needed + barred)
      refine ⟨_, rfl, _, rfl, D, D2, xs, ys, rfl, rfl, s34 _ _ w2, w4, by rw [p2.len, p4.len, List.length_map, List.length_map]; exact Nat.le_of_lt (small1000 (by omega)), fun D3 nD3 => ?_⟩
      generalize hE5 : upd H4 D3 _ = H5
      have w5 := new_at hE5
      have s5 := new_same hE5 nD3
      refine ⟨D3, _, _, rfl, SqL.of w5, ((p2.same s34).same s5).app (p4.same s5), by rw [List.length_append, List.length_map, List.length_map]; omega, fun D4 zs nD4 pz => ?_⟩
      have s6 : Same H5 (upd H5 D4 (.lst zs)) := same_upd nD4
      have sA := ((s2.trans s34).trans s5)
      refine q D4 zs _ (sA.free nD4) (sA.trans s6) upd_same ?_
      unfold ao
      rw [if_neg c]
      exact pz.same s6

-- SPLIT
/-! ### a stand -/
structure SF where
  wished : List Str
  up : List Str
  later : List Str
  back : List Str
def SStr (s : SF) : Prop := ∀ x ∈ s.wished ++ s.up ++ s.later ++ s.back, PyData.strOk x = true
theorem SStr.wi {s : SF} (h : SStr s) : ∀ x ∈ s.wished, PyData.strOk x = true := fun x m => h x (by simp only [List.mem_append]; exact .inl (.inl (.inl m)))
theorem SStr.up {s : SF} (h : SStr s) : ∀ x ∈ s.up, PyData.strOk x = true := fun x m => h x (by simp only [List.mem_append]; exact .inl (.inl (.inr m)))
theorem SStr.la {s : SF} (h : SStr s) : ∀ x ∈ s.later, PyData.strOk x = true := fun x m => h x (by simp only [List.mem_append]; exact .inl (.inr m))
theorem SStr.ba {s : SF} (h : SStr s) : ∀ x ∈ s.back, PyData.strOk x = true := fun x m => h x (by simp only [List.mem_append]; exact .inr m)
abbrev sFs (w u l b : V) : List (Str × V) := [("wished", w), ("up", u), ("later", l), ("back", b)]
def sp_Stand_init (K : PySem.W.Frag) : Sp := fun vs H Q _ => ∃ (p dx : Addr) (v1 v2 v3 v4 : V), vs = [.ref p, v1, v2, v3, v4] ∧ H p = some (.ins (He.ga K "Stand") dx []) ∧
  ∀ H', H' p = some (.ins (He.ga K "Stand") dx (sFs v1 v2 v3 v4)) → Kp p H H' → Q .non H'
theorem ok_Stand_init (T : Txt K mg) : FnOk P w K mg base CX0 1 (He.fAd K ("Stand", some "__init__")) T.d_Stand_init ["self", "wished", "up", "later", "back"] (sp_Stand_init K) := by
  refine T.F_Stand_init.ok sc_Stand_init (fun vs H Q E h => ?_) (fun cdv A outer s H vs Q E hr h => ?_)
  · obtain ⟨p, dx, v1, v2, v3, v4, rfl, _⟩ := h
    rfl
  · obtain ⟨p, dx, v1, v2, v3, v4, rfl, hp, q⟩ := h
    refine ⟨_, PSs.nox (pss_cons (ps_fld (pv 0) (pv 1) rfl)
      (pss_cons (ps_fld (pv 0) (pv 2) rfl)
      (pss_cons (ps_fld (pv 0) (pv 3) rfl)
      (pss_one (ps_fld (pv 0) (pv 4) rfl))))), ?_⟩
    refine ⟨_, rfl, _, rfl, p, _, dx, [], rfl, hp, T.cl_Stand, T.na_Stand_wished, (by show 0 < 1000; decide), ?_⟩
    refine ⟨_, rfl, _, rfl, p, _, dx, _, rfl, upd_same, T.cl_Stand, T.na_Stand_up, (by show 1 < 1000; decide), ?_⟩
    refine ⟨_, rfl, _, rfl, p, _, dx, _, rfl, upd_same, T.cl_Stand, T.na_Stand_later, (by show 2 < 1000; decide), ?_⟩
    refine ⟨_, rfl, _, rfl, p, _, dx, _, rfl, upd_same, T.cl_Stand, T.na_Stand_back, (by show 3 < 1000; decide), ?_⟩
    refine q _ upd_same fun c o h n => ?_
    rw [upd_ne n, upd_ne n, upd_ne n, upd_ne n]
    exact h
/-- a stand stands at p -/
def StandAt (K : PySem.W.Frag) (H : Hp) (p : Addr) (s : SF) : Prop := ∃ (dx w u l b : Addr), H p = some (.ins (He.ga K "Stand") dx (sFs (.ref w) (.ref u) (.ref l) (.ref b))) ∧
  SqT K H w (s.wished.map V.str) ∧ SqT K H u (s.up.map V.str) ∧ SqT K H l (s.later.map V.str) ∧ SqT K H b (s.back.map V.str)
theorem StandAt.same {H H' : Hp} {p : Addr} {s : SF} (h : StandAt K H p s) (e : Same H H') : StandAt K H' p s := by
  obtain ⟨dx, w, u, l, b, h0, h1, h2, h3, h4⟩ := h
  exact ⟨dx, w, u, l, b, e _ _ h0, tup_same e h1, tup_same e h2, tup_same e h3, tup_same e h4⟩
theorem StandAt.keep {H H' : Hp} {p q : Addr} {s : SF} {n : Nat} (h : StandAt K H p s) (k : Kp q H H') (B : Bag n H q) : StandAt K H' p s := by
  obtain ⟨_, _, _, hq, _⟩ := B.ex
  have nt := NotTp.lst hq
  obtain ⟨dx, w, u, l, b, h0, h1, h2, h3, h4⟩ := h
  exact ⟨dx, w, u, l, b, k _ _ h0 (fun e => by rw [e, hq] at h0; cases h0), k.tup nt h1, k.tup nt h2, k.tup nt h3, k.tup nt h4⟩

/-! ### what it is that a stand fits -/
def openL (s : SF) : List Str := s.wished.filter fun x => decide (x ∉ s.up)
def Fits (us : List (Str × UF)) (s : SF) : Prop := (∀ x ∈ s.wished ++ s.up ++ s.later ++ s.back, x ∈ us.map (·.1)) ∧ (s.wished ++ s.later ++ s.back).Nodup ∧ (∀ x ∈ s.wished ++ s.later, ∀ u, fu us x = some u → ∀ o ∈ u.needs, o ∈ s.wished) ∧ (∀ x ∈ s.wished ++ s.later, ∀ o ∈ br us x, o ∉ s.wished ++ s.later ++ s.back) ∧ ¬ Knotted (wt us) (openL s)

def sp_open_in (K : PySem.W.Frag) : Sp := fun vs H Q _ => ∃ (p : Addr) (s : SF), vs = [.ref p] ∧ StandAt K H p s ∧ s.wished.length ≤ 100 ∧
  ∀ l H', H l = none → Same H H' → H' l = some (.lst ((openL s).map V.str)) → Q (.ref l) H'
theorem ok_open_in (T : Txt K mg) : FnOk P w K mg base CX0 1 (He.fAd K ("open_in", none)) T.d_open_in ["stand"] (sp_open_in K) := by
  refine T.F_open_in.ok sc_open_in (fun vs H Q E h => ?_) (fun cdv A outer s H vs Q E hr h => ?_)
  · obtain ⟨p, s, rfl, _⟩ := h
    rfl
  · obtain ⟨p, s, rfl, hp, hl, q⟩ := h
    refine ⟨_, PSs.nox (pss_one (ps_ret (pe_lc (own := [("name", 1)]) (by rfl) sc_open_in.nd (pi_tup (pe_fld (pv 0) rfl)) (blkOk_by (own := [("name", 1)]) (N := N_open_in) (sc := defScope s_open_in) (by decide +kernel)) (fun _ _ _ _ _ => (pg_name (i := 1) sc_open_in.nd rfl (Or.inl rfl))) (fun _ _ _ _ _ => by exact (pts_one (pt_cmpR (r := rIn K true) op_notIn_seq (pv 1) (UP.pe_fldK (K := K) (by rfl) (pv 0) (by rfl)) (by rfl)))) (fun _ _ _ _ _ => (pv 1))))), ?_⟩
    obtain ⟨dx, aw, au, al, ab, hp0, hw, hu, _, _⟩ := hp
    refine ⟨_, rfl, p, _, dx, _, _, rfl, hp0, T.cl_Stand, T.na_Stand_wished, rfl, aw, rfl, ⟨_, hw⟩, fun D nD => lc_tup (K := K) (a := aw) (xs := s.wished.map V.str) (fun i H' => Same H H' ∧ H' D = some (.lst (((s.wished.take i).filter fun x => decide (x ∉ s.up)).map V.str))) ⟨same_upd nD, upd_same⟩
      (fun i H' _ hp => tup_same hp.1 hw) ?_ ?_⟩
    · rintro i y H9 hy ⟨s9, w9⟩
      rw [List.getElem?_map] at hy
      obtain ⟨x, hx, rfl⟩ := Option.map_eq_some_iff.mp hy
      have hi : i < s.wished.length := (List.getElem?_eq_some_iff.mp hx).1
      rw [List.take_add_one, hx, Option.toList_some, List.filter_append]
      refine ⟨rfl, ?_⟩
      refine ⟨_, rfl, _, rfl, p, _, dx, _, _, rfl, s9 _ _ hp0, T.cl_Stand, T.na_Stand_up, rfl, au, _, rfl, .inr (tup_same s9 hu), rfl, strs_flat s.up, _, rfl, ?_⟩
      rw [inV_str]
      by_cases hin : x ∈ s.up
      · rw [decide_eq_true hin]
        refine iteF ⟨s9, ?_⟩
        rw [List.filter_cons_of_neg (p := fun x => decide (x ∉ s.up)) (by rw [decide_eq_false (fun z => z hin)]; exact Bool.false_ne_true), List.filter_nil, List.append_nil]
        exact w9
      · rw [decide_eq_false hin]
        refine iteT ⟨_, rfl, _, w9, ?_, Same.own (q := D) (H1 := H9) s9 (mut_keep rfl) nD, ?_⟩
        · rw [List.length_map]
          refine Nat.lt_of_le_of_lt (List.length_filter_le _ _) (Nat.lt_of_le_of_lt (List.length_take_le _ _) (small1000 (by omega)))
        · rw [upd_same, List.filter_cons_of_pos (p := fun x => decide (x ∉ s.up)) (decide_eq_true hin), List.map_append]
          rfl
    · rintro H9 ⟨s9, w9⟩
      rw [List.length_map, List.take_length] at w9
      exact q D H9 nD s9 w9

-- SPLIT
/-! ### all that follows -/
inductive Reach (us : List (Str × UF)) (ds : List (Str × Str)) : Str × Str → Prop
  | base {d : Str × Str} (h : d ∈ ds) : Reach us ds d
  | step {a b : Str × Str} (h : Reach us ds a) (g : b ∈ ao us a) : Reach us ds b
def WD (us : List (Str × UF)) (d : Str × Str) : Prop := d.1 ∈ us.map (·.1) ∧ (d.2 = onS ∨ d.2 = offS)
theorem ao_wd {us : List (Str × UF)} {a b : Str × Str} (h : b ∈ ao us a) : WD us b := by
  unfold ao at h
  by_cases c : a.2 = offS
  · rw [if_pos c] at h
    obtain ⟨o, ho, rfl⟩ := List.mem_map.mp h
    exact ⟨srt_mem.mp (List.mem_filter.mp ho).1, .inr rfl⟩
  · rw [if_neg c] at h
    rcases List.mem_append.mp (srtP_mem.mp h) with h | h
    · obtain ⟨o, ho, rfl⟩ := List.mem_map.mp h
      refine ⟨?_, .inl rfl⟩
      unfold ned at ho
      split at ho
      · exact of_decide_eq_true (List.mem_filter.mp ho).2
      · cases ho
    · obtain ⟨o, ho, rfl⟩ := List.mem_map.mp h
      exact ⟨srt_mem.mp (List.mem_filter.mp ho).1, .inr rfl⟩
theorem reach_wd {us : List (Str × UF)} {ds : List (Str × Str)} (hd : ∀ d ∈ ds, WD us d) {d : Str × Str} (h : Reach us ds d) : WD us d := by
  cases h with
  | base h => exact hd d h
  | step _ g => exact ao_wd g
theorem wd_few {us : List (Str × UF)} (hN : Nms us) {es : List (Str × Str)} (hn : es.Nodup) (h : ∀ d ∈ es, WD us d) : es.length ≤ 32 := by
  have := nodup_le es ((us.map (·.1)).map (·, onS) ++ (us.map (·.1)).map (·, offS)) hn fun d hd => by
    obtain ⟨h1, h2⟩ := h d hd
    rcases h2 with e | e
    · exact List.mem_append_left _ (List.mem_map.mpr ⟨d.1, h1, by rw [← e]⟩)
    · exact List.mem_append_right _ (List.mem_map.mpr ⟨d.1, h1, by rw [← e]⟩)
  rw [List.length_append, List.length_map, List.length_map (f := (·, offS))] at this
  have := hN.len
  omega
theorem closed_reach {us : List (Str × UF)} {ds es : List (Str × Str)} (h0 : ∀ d ∈ ds, d ∈ es) (hc : ∀ a ∈ es, ∀ b ∈ ao us a, b ∈ es) {d : Str × Str} (h : Reach us ds d) : d ∈ es := by
  induction h with
  | base h => exact h0 _ h
  | step _ g ih => exact hc _ ih _ g

/-! ### how near a demand is -/
inductive Near (us : List (Str × UF)) (ds : List (Str × Str)) : Nat → Str × Str → Prop
  | base {d : Str × Str} (h : d ∈ ds) : Near us ds 0 d
  | step {n : Nat} {a b : Str × Str} (h : Near us ds n a) (g : b ∈ ao us a) : Near us ds (n + 1) b
/-- by just so many links, not by fewer -/
def Lv (us : List (Str × UF)) (ds : List (Str × Str)) (n : Nat) (d : Str × Str) : Prop := Near us ds n d ∧ ∀ m, m < n → ¬ Near us ds m d
section
variable {us : List (Str × UF)} {ds : List (Str × Str)}
theorem Lv.uniq {n m : Nat} {d : Str × Str} (h : Lv us ds n d) (g : Lv us ds m d) : n = m := by
  rcases Nat.lt_trichotomy n m with c | c | c
  · exact absurd h.1 (g.2 n c)
  · exact c
  · exact absurd g.1 (h.2 m c)
theorem near_lv : ∀ {n : Nat} {d : Str × Str}, Near us ds n d → ∃ m, m ≤ n ∧ Lv us ds m d := by
  intro n
  induction n using Nat.strongRecOn with
  | ind n ih =>
    intro d h
    by_cases c : ∃ m, m < n ∧ Near us ds m d
    · obtain ⟨m, hm, hd⟩ := c
      obtain ⟨k, hk, hl⟩ := ih m hm hd
      exact ⟨k, by omega, hl⟩
    · exact ⟨n, Nat.le_refl _, h, fun m hm hd => c ⟨m, hm, hd⟩⟩
theorem lv_step {n : Nat} {b : Str × Str} (h : Lv us ds (n + 1) b) : ∃ a, Lv us ds n a ∧ b ∈ ao us a := by
  obtain ⟨h1, h2⟩ := h
  cases h1 with
  | step ha g => exact ⟨_, ⟨ha, fun m hm hd => h2 (m + 1) (by omega) (.step hd g)⟩, g⟩
theorem lv_down {i m : Nat} {d : Str × Str} (h : Lv us ds m d) (hi : i ≤ m) : ∃ a, Lv us ds i a := by
  obtain ⟨k, rfl⟩ := Nat.exists_eq_add_of_le hi
  induction k generalizing d with
  | zero => exact ⟨d, h⟩
  | succ k ih =>
    obtain ⟨a, ha, _⟩ := lv_step (n := i + k) h
    exact ih ha (by omega)
theorem lv0 {d : Str × Str} : Lv us ds 0 d ↔ d ∈ ds := by
  refine ⟨fun h => ?_, fun h => ⟨.base h, fun m hm => absurd hm (Nat.not_lt_zero m)⟩⟩
  obtain ⟨h, _⟩ := h
  cases h with
  | base h => exact h
theorem near_wd {n : Nat} {d : Str × Str} (hd : ∀ d ∈ ds, WD us d) (h : Near us ds n d) : WD us d := by
  cases h with
  | base h => exact hd d h
  | step _ g => exact ao_wd g
/-- a new one behind those found so far -/
theorem lv_new {i : Nat} {es : List (Str × Str)} {a b : Str × Str} (he : ∀ d, d ∈ es ↔ ∃ m, m ≤ i ∧ Lv us ds m d) (ha : Lv us ds i a) (g : b ∈ ao us a) (hb : b ∉ es) : Lv us ds (i + 1) b := by
  refine ⟨.step ha.1 g, fun m hm hn => ?_⟩
  obtain ⟨k, hk, hl⟩ := near_lv hn
  exact hb ((he b).mpr ⟨k, by omega, hl⟩)
theorem lv_round {i : Nat} {es fs rs : List (Str × Str)} (he : ∀ d, d ∈ es ↔ ∃ m, m ≤ i ∧ Lv us ds m d) (hf : ∀ d, d ∈ fs ↔ Lv us ds i d) (hr : ∀ d ∈ rs, Lv us ds (i + 1) d) (hc : ∀ a ∈ fs, ∀ b ∈ ao us a, b ∈ es ++ rs) :
    (∀ d, d ∈ es ++ rs ↔ ∃ m, m ≤ i + 1 ∧ Lv us ds m d) ∧ ∀ d, d ∈ rs ↔ Lv us ds (i + 1) d := by
  have h1 : ∀ d, Lv us ds (i + 1) d → d ∈ es ++ rs := fun d hd => by
    obtain ⟨a, ha, g⟩ := lv_step hd
    exact hc a ((hf a).mpr ha) d g
  refine ⟨fun d => ⟨fun hd => ?_, ?_⟩, fun d => ⟨hr d, fun hd => ?_⟩⟩
  · rcases List.mem_append.mp hd with hd | hd
    · obtain ⟨m, hm, hl⟩ := (he d).mp hd
      exact ⟨m, by omega, hl⟩
    · exact ⟨i + 1, Nat.le_refl _, hr d hd⟩
  · rintro ⟨m, hm, hl⟩
    rcases Nat.lt_or_ge i m with c | c
    · obtain rfl : m = i + 1 := by omega
      exact h1 d hl
    · exact List.mem_append_left _ ((he d).mpr ⟨m, c, hl⟩)
  · rcases List.mem_append.mp (h1 d hd) with c | c
    · obtain ⟨m, hm, hl⟩ := (he d).mp c
      have := hl.uniq hd
      omega
    · exact c
theorem lv_all {i : Nat} {es : List (Str × Str)} (he : ∀ d, d ∈ es ↔ ∃ m, m ≤ i ∧ Lv us ds m d) (hf : ∀ d, ¬ Lv us ds i d) (d : Str × Str) : d ∈ es ↔ ∃ m, Lv us ds m d := by
  rw [he]
  refine ⟨fun ⟨m, _, h⟩ => ⟨m, h⟩, fun ⟨m, h⟩ => ⟨m, ?_, h⟩⟩
  rcases Nat.lt_or_ge m i with c | c
  · omega
  · obtain ⟨a, ha⟩ := lv_down h c
    exact absurd ha (hf a)
end
/-- what a demand is there by -/
def Par (H : Hp) (us : List (Str × UF)) (ds : List (Str × Str)) (d : Str × Str) (v : V) : Prop :=
  (Lv us ds 0 d ∧ v = .non) ∨ ∃ n t a, Lv us ds (n + 1) d ∧ v = .ref t ∧ H t = some (.tup [.str a.1, .str a.2]) ∧ Lv us ds n a ∧ d ∈ ao us a
/-- by each that was found what it is there by -/
def Pars (H : Hp) (us : List (Str × UF)) (ds : List (Str × Str)) (kvs : List (List Key × V)) : Prop := ∀ d v, valV kvs (key2 d) = some v → Par H us ds d v
theorem Pars.same {H H' : Hp} {us : List (Str × UF)} {ds : List (Str × Str)} {kvs : List (List Key × V)} (h : Pars H us ds kvs) (s : Same H H') : Pars H' us ds kvs := fun d v e => by
  rcases h d v e with h | ⟨n, t, a, h1, h2, h3, h4⟩
  · exact .inl h
  · exact .inr ⟨n, t, a, h1, h2, s _ _ h3, h4⟩
theorem Pars.keep {H H' : Hp} {us : List (Str × UF)} {ds : List (Str × Str)} {kvs : List (List Key × V)} {q : Addr} (h : Pars H us ds kvs) (k : Kp q H H') (n : NotTup H q) : Pars H' us ds kvs := fun d v e => by
  rcases h d v e with h | ⟨m, t, a, h1, h2, h3, h4⟩
  · exact .inl h
  · exact .inr ⟨m, t, a, h1, h2, k _ _ h3 (n.ne h3), h4⟩
theorem Pars.put {H : Hp} {us : List (Str × UF)} {ds : List (Str × Str)} {kvs : List (List Key × V)} {d : Str × Str} {v : V} (h : Pars H us ds kvs) (hv : Par H us ds d v) : Pars H us ds (putK kvs (key2 d) v) := fun e x hx => by
  rw [valV_put] at hx
  by_cases c : key2 e = key2 d
  · rw [if_pos c] at hx
    cases hx
    rw [key2_inj c]
    exact hv
  · rw [if_neg c] at hx
    exact h e x hx

/-! ### causes -/
def sp_causes (K : PySem.W.Frag) : Sp := fun vs H Q _ => ∃ (p l : Addr) (us : List (Str × UF)) (xs : List V) (ds : List (Str × Str)), vs = [.ref p, .ref l] ∧ ShelfAt K H p us ∧ Nms us ∧ (∀ p ∈ us, p.2.needs.length ≤ 100) ∧ SqL K H l xs ∧ PrH H xs ds ∧ (∀ d ∈ ds, WD us d) ∧
  ∀ D (kvs : List (List Key × V)) (es : List (Str × Str)) H', H D = none → Same H H' → H' D = some (.dT kvs) → kvs.map (·.1) = es.map key2 → es.Nodup → (∀ d, d ∈ es ↔ ∃ n, Lv us ds n d) → Pars H' us ds kvs → Q (.ref D) H'
theorem ok_causes (T : Txt K mg) : FnOk P w K mg base CX0 5 (He.fAd K ("causes", none)) T.d_causes ["shelf", "demands"] (sp_causes K) := by
  refine T.F_causes.ok sc_causes (fun vs H Q E h => ?_) (fun cdv A outer s H vs Q E hr h => ?_)
  · obtain ⟨p, l, us, xs, ds, rfl, _⟩ := h
    rfl
  · obtain ⟨p, l, us, xs, ds, rfl, hS, hN, hF, hl, hP, hW, q⟩ := h
    refine ⟨_, PSs.nox (pss_cons (UD.ps_setDt (hu_of hr) (i := 3) (own := [("demand", 2)]) (by rfl) sc_causes.nd rfl rfl (UP.sw_dict rfl rfl rfl (by decide +kernel)) (pi_list (pv 1)) (blkOk_by (own := [("demand", 2)]) (N := N_causes) (sc := defScope s_causes) (by decide +kernel)) (fun _ _ _ _ _ => (pg_name (i := 2) sc_causes.nd rfl (Or.inl rfl))) (fun _ _ _ _ _ => pts_nil) (fun _ _ _ _ _ => (pv 2)) (fun _ _ _ _ _ => pe_non))
      (pss_cons (ps_set (i := 4) sc_causes.nd rfl (Or.inl rfl) (pe_callTy (T := "list")  (call_list_dT rfl) (by rfl) T.n_list (by decide +kernel) (pa_cons (pv 3) pa_nil)))
      (pss_cons (ps_while PassesOwn.never (pt_cmpR op_gt (pe_callB (id := "len")  call_len_seq (by rfl) T.n_len (by decide +kernel) (pa_cons (pv 4) pa_nil)) pe_int (nomark _))
      (pss_cons (ps_set (i := 5) sc_causes.nd rfl (Or.inl rfl) (pe_lst pa_nil))
      (pss_cons (ps_for PassesOwn.never rfl (pi_list (pv 4)) (pg_name (i := 2) sc_causes.nd rfl (Or.inl rfl))
      (pss_one (ps_for PassesOwn.never rfl (pi_list (pe_call (ok_at_once T) (hr.mono (by decide)) (by rfl) T.m_at_once T.F_at_once.kp T.b_at_once .nil pass0 (pa_cons (pv 0) (pa_cons (pv 2) pa_nil)))) (pg_name (i := 6) sc_causes.nd rfl (Or.inl rfl))
      (pss_one (ps_if (pt_cmp (pc_dnotin (hu_of hr) (pv 6) (pv 3)))
      (pss_cons (ps_dput (hu_of hr) (pv 3) (pv 6) (pv 2) rfl)
      (pss_one (ps_expr (pe_bm PySem.F.plainAttrs_list PySem.F.slot_list_append PySem.F.type_list_append mt_append (pv 5) (pa_cons (pv 6) pa_nil)))))
      pss_nil)))))
      (pss_one (ps_set (i := 4) sc_causes.nd rfl (Or.inl rfl) (pv 5))))))
      (pss_one (ps_ret (pv 3)))))), ?_⟩
    -- found = {demand: None for demand in demands}
    refine ⟨_, rfl, l, rfl, ⟨_, hl⟩, fun D nD => ?_⟩
    refine dt_it (walk_list (xs := xs)) (fun i H' => Same H H' ∧ ∃ (kvs : List (List Key × V)) (es : List (Str × Str)), H' D = some (.dT kvs) ∧ kvs.map (·.1) = es.map key2 ∧ es.Nodup ∧ (∀ d, d ∈ es ↔ d ∈ ds.take i) ∧ Pars H' us ds kvs) ⟨same_upd nD, [], [], upd_same, rfl, List.nodup_nil, fun d => Iff.rfl, fun d v e => nomatch e⟩ (fun i H' _ h => SqL.ext hl h.1) ?_ ?_
    · rintro i x H1 H1' hi ⟨s1, kvs, es, w1, hk, hn, hm, hpr⟩ ⟨rfl, hx⟩
      obtain ⟨t, d, rfl, hd, ht⟩ := hP.get hx
      have few := wd_few hN hn fun d hd => hW d (List.mem_of_mem_take ((hm d).mp hd))
      refine ⟨rfl, yes_of (iteT ⟨_, rfl, kvs, key2 d, t, rfl, s1 _ _ ht, w1, by rw [len2 hk]; exact small1000 (by omega), ?_⟩)⟩
      refine ⟨Same.own (q := D) s1 (mut_keep rfl) nD, _, if d ∈ es then es else es ++ [d], upd_same, ?_, ?_, fun e => ?_, ?_⟩
      · by_cases c : d ∈ es
        · rw [if_pos c]
          exact put2_old hk c _
        · rw [if_neg c]
          exact put2_new hk c _
      · by_cases c : d ∈ es
        · rw [if_pos c]
          exact hn
        · rw [if_neg c]
          exact snoc_nodup hn c
      · rw [take_snoc hd, List.mem_append, List.mem_singleton, ← hm e]
        by_cases c : d ∈ es
        · rw [if_pos c]
          exact ⟨.inl, fun z => z.elim id fun z => z ▸ c⟩
        · rw [if_neg c, List.mem_append, List.mem_singleton]
      · exact (hpr.keep (mut_keep rfl) (UD.NotTup.dT w1)).put (.inl ⟨lv0.mpr (List.mem_of_getElem? hd), rfl⟩)
    rintro H1 ⟨s1, kvs, es, w1, hk, hn, hm, hpr⟩
    rw [hP.len, List.take_length] at hm
    -- front = list(found)
    refine ⟨_, rfl, D, kvs, rfl, .inl w1, fun f bs nf isk => ?_⟩
    have pf := keys_prH isk hk
    generalize hE2 : upd H1 f _ = H2
    have w2 := new_at hE2
    have s2 := new_same hE2 nf
    have nDf : D ≠ f := ne_some w1 nf
    refine ⟨fun m σ H' => Same H H' ∧ ∃ (i : Nat) (kvs : List (List Key × V)) (es : List (Str × Str)) (f : Addr) (fxs : List V) (fs : List (Str × Str)) (y2 y5 y6 : Option V), H' D = some (.dT kvs) ∧ kvs.map (·.1) = es.map key2 ∧ es.Nodup ∧ (∀ d, d ∈ es ↔ ∃ m, m ≤ i ∧ Lv us ds m d) ∧ Pars H' us ds kvs ∧ H' f = some (.lst fxs) ∧ PrH H' fxs fs ∧ (∀ d, d ∈ fs ↔ Lv us ds i d) ∧ m = 2 * (40 - es.length) + (if fs = [] then 0 else 1) ∧
        σ = [some (.ref p), some (.ref l), y2, some (.ref D), some (.ref f), y5, y6],
      ⟨_, s1.trans s2, 0, kvs, es, f, _, es, none, none, none, s2 _ _ w1, hk, hn, fun d => ?_, hpr.same s2, w2, pf.same s2, fun d => (hm d).trans lv0.symm, rfl, rfl⟩, ?_⟩
    · rw [hm, ← lv0 (us := us) (ds := ds)]
      refine ⟨fun h => ⟨0, Nat.le_refl _, h⟩, fun ⟨m, h0, h⟩ => ?_⟩
      obtain rfl : m = 0 := by omega
      exact h
    clear w2 s2 nDf hE2 pf isk nf bs f hm hn hk w1 s1 hpr
    rintro m σ H3 ⟨s3, lv, kvs, es, f, fxs, fs, y2, y5, y6, w3, hk, hn, hes, hpr, wf, pf, hfs, rfl, rfl⟩
    have wdE : ∀ d ∈ es, WD us d := fun d hd => by
      obtain ⟨m, _, h⟩ := (hes d).mp hd
      exact near_wd hW h.1
    have few := wd_few hN hn wdE
    refine ⟨_, rfl, f, _, rfl, .inl (SqL.of wf), _, _, rfl, rfl, _, rfl, ?_⟩
    rw [pf.len]
    by_cases c : fs = []
    · subst c
      refine iteNd (by decide) ⟨_, rfl, q D kvs es H3 nD s3 w3 hk hn (lv_all hes fun d hd => nomatch (hfs d).mpr hd) hpr⟩
    have hpos : 0 < fs.length := List.length_pos_iff.mpr c
    refine iteYd (by omega) ⟨_, fun σ' H' h => h, ?_⟩
    -- reached = []
    refine ⟨by show 0 ≤ sizeLine; decide, fun R nR => ?_⟩
    generalize hE4 : upd H3 R _ = H4
    have wR := new_at hE4
    have s4 := new_same hE4 nR
    have nRH : H R = none := s3.free nR
    have nDR : D ≠ R := ne_some w3 nR
    have nfR : f ≠ R := ne_some wf nR
    have nDf : D ≠ f := fun e => by rw [e, wf] at w3; cases w3
    -- for demand in front
    refine ⟨_, rfl, f, rfl, ⟨_, SqL.of (s4 _ _ wf)⟩, for_list (xs := fxs) (fun i σ H' => Same H H' ∧ H' f = some (.lst fxs) ∧ PrH H' fxs fs ∧ ∃ (kv : List (List Key × V)) (rxs : List V) (rs : List (Str × Str)) (y2 y6 : Option V), H' D = some (.dT kv) ∧ kv.map (·.1) = (es ++ rs).map key2 ∧ (es ++ rs).Nodup ∧ (∀ d ∈ rs, Lv us ds (lv + 1) d) ∧ Pars H' us ds kv ∧ H' R = some (.lst rxs) ∧ PrH H' rxs rs ∧ (∀ a ∈ fs.take i, ∀ b ∈ ao us a, b ∈ es ++ rs) ∧
          σ = [some (.ref p), some (.ref l), y2, some (.ref D), some (.ref f), some (.ref R), y6])
      ⟨s3.trans s4, s4 _ _ wf, pf.same s4, kvs, [], [], _, _, s4 _ _ w3, by rw [List.append_nil]; exact hk, by rw [List.append_nil]; exact hn, (fun d hd => nomatch hd), hpr.same s4, wR, .nil, (fun a ha => nomatch ha), rfl⟩ (fun i σ H' _ h => SqL.of h.2.1) ?_ ?_⟩
    · rintro i x σ H5 hi ⟨s5, wf5, pf5, kv, rxs, rs, y2, y6, w5, hk5, hn5, hr5, hpr5, wR5, pR5, hcl5, rfl⟩
      obtain ⟨t, a, rfl, ha, ht⟩ := pf5.get hi
      have haL : Lv us ds lv a := (hfs a).mp (List.mem_of_getElem? ha)
      have hawd := near_wd hW haL.1
      -- for other in at_once(shelf, demand)
      refine ⟨_, rfl, _, rfl, p, t, us, a, rfl, hS.same s5, hN, hF, SqT.of ht, hawd.1, fun L lxs H6 nL s6 wL pL => ?_⟩
      have nDL : D ≠ L := ne_some w5 nL
      have nRL : R ≠ L := ne_some wR5 nL
      have nfL : f ≠ L := ne_some wf5 nL
      refine ⟨L, rfl, ⟨_, SqL.of wL⟩, for_list (xs := lxs) (fun j σ H' => Same H H' ∧ H' f = some (.lst fxs) ∧ PrH H' fxs fs ∧ H' L = some (.lst lxs) ∧ PrH H' lxs (ao us a) ∧ H' t = some (.tup [.str a.1, .str a.2]) ∧ ∃ (kv : List (List Key × V)) (rxs : List V) (rs : List (Str × Str)) (y6 : Option V), H' D = some (.dT kv) ∧ kv.map (·.1) = (es ++ rs).map key2 ∧ (es ++ rs).Nodup ∧ (∀ d ∈ rs, Lv us ds (lv + 1) d) ∧ Pars H' us ds kv ∧ H' R = some (.lst rxs) ∧ PrH H' rxs rs ∧ (∀ a ∈ fs.take i, ∀ b ∈ ao us a, b ∈ es ++ rs) ∧ (∀ b ∈ (ao us a).take j, b ∈ es ++ rs) ∧
            σ = [some (.ref p), some (.ref l), some (.ref t), some (.ref D), some (.ref f), some (.ref R), y6])
        ⟨s5.trans s6, s6 _ _ wf5, pf5.same s6, wL, pL, s6 _ _ ht, kv, rxs, rs, _, s6 _ _ w5, hk5, hn5, hr5, hpr5.same s6, s6 _ _ wR5, pR5.same s6, hcl5, (fun b hb => nomatch hb), rfl⟩ (fun j σ H' _ h => SqL.of h.2.2.2.1) ?_ ?_⟩
      · rintro j x σ H7 hj ⟨s7, wf7, pf7, wL7, pL7, ht7, kv, rxs, rs, y6, w7, hk7, hn7, hr7, hpr7, wR7, pR7, hcl7, hin7, rfl⟩
        obtain ⟨u, b, rfl, hb, hu⟩ := pL7.get hj
        have hbao : b ∈ ao us a := List.mem_of_getElem? hb
        have few7 := wd_few hN hn7 fun d hd => (List.mem_append.mp hd).elim (wdE d) fun z => near_wd hW (hr7 d z).1
        have rsl : rs.length ≤ 32 := by
          rw [List.length_append] at few7
          omega
        refine ⟨_, rfl, _, rfl, D, _, rfl, DGet.t (k := key2 b) w7 hu, _, rfl, ?_⟩
        rw [val2 hk7]
        by_cases c2 : b ∈ es ++ rs
        · rw [decide_eq_true c2]
          refine iteF ⟨s7, wf7, pf7, wL7, pL7, ht7, kv, rxs, rs, _, w7, hk7, hn7, hr7, hpr7, wR7, pR7, hcl7, fun e he => ?_, rfl⟩
          rw [take_snoc hb] at he
          rcases List.mem_append.mp he with he | he
          · exact hin7 e he
          · rw [List.mem_singleton.mp he]
            exact c2
        rw [decide_eq_false c2]
        have hbL : Lv us ds (lv + 1) b := lv_new hes haL hbao fun z => c2 (List.mem_append_left _ z)
        refine iteT ?_
        refine ⟨_, rfl, _, rfl, _, rfl, D, _, rfl, DPut.t (k := key2 b) w7 hu (by rw [len2 hk7]; exact small1000 (by omega)), ?_⟩
        generalize hE8 : upd H7 D _ = H8
        have w8 := new_at hE8
        have m8 := mut_keep hE8
        have nt8 : NotTup H7 D := UD.NotTup.dT w7
        have wR8 := m8 _ _ wR7 nDR.symm
        refine ⟨_, rfl, .inl ⟨rfl, _, SqL.of wR8⟩, _, rfl, R, _, _, rfl, rfl, wR8, by rw [pR7.len]; exact small1000 (by omega), ?_⟩
        generalize hE9 : upd H8 R _ = H9
        have w9 := new_at hE9
        have m9 := mut_keep hE9
        have nt9 : NotTup H8 R := .lst wR8
        have tk : ∀ {c : Addr} {o : HO}, H7 c = some o → c ≠ D → c ≠ R → H9 c = some o := fun h h1 h2 => m9 _ _ (m8 _ _ h h1) h2
        have hu9 : H9 u = some (.tup [.str b.1, .str b.2]) := tk hu (nt8.ne hu) (fun e => by rw [e, wR7] at hu; cases hu)
        have ht9 : H9 t = some (.tup [.str a.1, .str a.2]) := tk ht7 (nt8.ne ht7) (fun e => by rw [e, wR7] at ht7; cases ht7)
        have app : es ++ (rs ++ [b]) = (es ++ rs) ++ [b] := (List.append_assoc ..).symm
        refine ⟨Same.own (Same.own s7 m8 nD) m9 nRH, tk wf7 nDf.symm nfR, (pf7.keep m8 nt8).keep m9 nt9, tk wL7 nDL.symm nRL.symm, (pL7.keep m8 nt8).keep m9 nt9, ht9, _, _, rs ++ [b], _, m9 _ _ w8 nDR, ?_, ?_, fun d hd => ?_, ?_, w9, ((pR7.keep m8 nt8).keep m9 nt9).app (.cons hu9 .nil), fun e he b' hb' => ?_, fun e he => ?_, rfl⟩
        · rw [app]
          exact put2_new hk7 c2 _
        · rw [app]
          exact snoc_nodup hn7 c2
        · rcases List.mem_append.mp hd with hd | hd
          · exact hr7 d hd
          · rw [List.mem_singleton.mp hd]
            exact hbL
        · exact ((hpr7.keep m8 nt8).keep m9 nt9).put (.inr ⟨lv, t, a, hbL, rfl, ht9, haL, hbao⟩)
        · rw [app]
          exact List.mem_append_left _ (hcl7 e he b' hb')
        · rw [app]
          rw [take_snoc hb] at he
          rcases List.mem_append.mp he with he | he
          · exact List.mem_append_left _ (hin7 e he)
          · exact List.mem_append_right _ he
      · rintro σ H7 ⟨s7, wf7, pf7, wL7, pL7, ht7, kv, rxs, rs, y6, w7, hk7, hn7, hr7, hpr7, wR7, pR7, hcl7, hin7, rfl⟩
        rw [pL7.len, List.take_length] at hin7
        refine ⟨s7, wf7, pf7, kv, rxs, rs, _, _, w7, hk7, hn7, hr7, hpr7, wR7, pR7, fun e he b' hb' => ?_, rfl⟩
        rw [take_snoc ha] at he
        rcases List.mem_append.mp he with he | he
        · exact hcl7 e he b' hb'
        · rw [List.mem_singleton.mp he] at hb'
          exact hin7 b' hb'
    · rintro σ H5 ⟨s5, wf5, pf5, kv, rxs, rs, y2, y6, w5, hk5, hn5, hr5, hpr5, wR5, pR5, hcl5, rfl⟩
      rw [pf5.len, List.take_length] at hcl5
      obtain ⟨hes', hrs'⟩ := lv_round hes hfs hr5 hcl5
      have few5 := wd_few hN hn5 fun d hd => (List.mem_append.mp hd).elim (wdE d) fun z => near_wd hW (hr5 d z).1
      -- front = reached
      refine ⟨_, rfl, _, ?_, s5, lv + 1, kv, es ++ rs, R, rxs, rs, _, _, _, w5, hk5, hn5, hes', hpr5, wR5, pR5, hrs', rfl, rfl⟩
      rw [if_neg c]
      rw [List.length_append] at few5 ⊢
      by_cases c3 : rs = []
      · rw [if_pos c3, c3]
        show 2 * (40 - (es.length + 0)) + 0 < _
        omega
      · rw [if_neg c3]
        have := List.length_pos_iff.mpr c3
        omega

-- SPLIT
/-! ### chains -/
/-- each follows at once from the one ahead -/
def Ch (us : List (Str × UF)) : List (Str × Str) → Prop
  | a :: b :: r => b ∈ ao us a ∧ Ch us (b :: r)
  | _ => True
theorem prh_rev {H : Hp} {xs : List V} {cs : List (Str × Str)} (h : PrH H xs cs) : PrH H xs.reverse cs.reverse := by
  induction h with
  | nil => exact .nil
  | cons a _ ih =>
    rw [List.reverse_cons, List.reverse_cons]
    exact ih.app (.cons a .nil)
/-- as many as there are levels -/
theorem lv_row {us : List (Str × UF)} {ds : List (Str × Str)} : ∀ {n : Nat} {d : Str × Str}, Lv us ds n d → ∃ cs : List (Str × Str), cs.Nodup ∧ cs.length = n + 1 ∧ ∀ c ∈ cs, ∃ m, m ≤ n ∧ Lv us ds m c
  | 0, d, h => ⟨[d], List.nodup_cons.mpr ⟨List.not_mem_nil, List.nodup_nil⟩, rfl, fun c hc => ⟨0, Nat.le_refl _, by rw [List.mem_singleton.mp hc]; exact h⟩⟩
  | n + 1, d, h => by
    obtain ⟨a, ha, _⟩ := lv_step h
    obtain ⟨cs, hn, hl, hc⟩ := lv_row ha
    refine ⟨d :: cs, List.nodup_cons.mpr ⟨fun z => ?_, hn⟩, by rw [List.length_cons, hl], fun c hcm => ?_⟩
    · obtain ⟨m, hm, hl⟩ := hc d z
      have := hl.uniq h
      omega
    · rcases List.mem_cons.mp hcm with rfl | hcm
      · exact ⟨n + 1, Nat.le_refl _, h⟩
      · obtain ⟨m, hm, hl⟩ := hc c hcm
        exact ⟨m, by omega, hl⟩
theorem lv_few {us : List (Str × UF)} {ds es : List (Str × Str)} {n : Nat} {d : Str × Str} (h : Lv us ds n d) (he : ∀ d n, Lv us ds n d → d ∈ es) : n < es.length := by
  obtain ⟨cs, hn, hl, hc⟩ := lv_row h
  have := nodup_le cs es hn fun c hcm => by
    obtain ⟨m, _, h⟩ := hc c hcm
    exact he c m h
  omega
def DTat (H : Hp) (D : Addr) (kvs : List (List Key × V)) : Prop := H D = some (.dT kvs) ∨ ∃ od, H D = some (.frz od (.dT kvs))
theorem DTat.same {H H' : Hp} {D : Addr} {kvs : List (List Key × V)} (h : DTat H D kvs) (s : Same H H') : DTat H' D kvs := h.imp (s _ _) fun ⟨od, h⟩ => ⟨od, s _ _ h⟩
def sp_chain_to (K : PySem.W.Frag) : Sp := fun vs H Q _ => ∃ (D g : Addr) (us : List (Str × UF)) (ds : List (Str × Str)) (kvs : List (List Key × V)) (goal : Str × Str) (n : Nat), vs = [.ref D, .ref g] ∧ DTat H D kvs ∧ H g = some (.tup [.str goal.1, .str goal.2]) ∧ Pars H us ds kvs ∧ (∀ d n, Lv us ds n d → (valV kvs (key2 d)).isSome = true) ∧ Lv us ds n goal ∧ n ≤ 100 ∧
  ∀ L xs cs H', H L = none → Same H H' → H' L = some (.lst xs) → PrH H' xs cs → cs.length = n + 1 → (∀ c, cs.head? = some c → c ∈ ds) → cs.getLast? = some goal → Ch us cs → Q (.ref L) H'
theorem ok_chain_to (T : Txt K mg) : FnOk P w K mg base CX0 1 (He.fAd K ("chain_to", none)) T.d_chain_to ["found", "goal"] (sp_chain_to K) := by
  refine T.F_chain_to.ok sc_chain_to (fun vs H Q E h => ?_) (fun cdv A outer s H vs Q E hr h => ?_)
  · obtain ⟨D, g, us, ds, kvs, goal, n, rfl, _⟩ := h
    rfl
  · obtain ⟨D, g, us, ds, kvs, goal, n, rfl, wD, wg, hpr, hall, hL, hn, q⟩ := h
    refine ⟨_, PSs.nox (pss_cons (ps_set (i := 2) sc_chain_to.nd rfl (Or.inl rfl) (pe_lst pa_nil))
      (pss_cons (ps_set (i := 3) sc_chain_to.nd rfl (Or.inl rfl) (pv 1))
      (pss_cons (ps_while PassesOwn.never (pt_cmpR op_notN (pv 3) pe_non (nomark _))
      (pss_cons (ps_expr (pe_bm PySem.F.plainAttrs_list PySem.F.slot_list_append PySem.F.type_list_append mt_append (pv 2) (pa_cons (pv 3) pa_nil)))
      (pss_one (ps_set (i := 3) sc_chain_to.nd rfl (Or.inl rfl) (pe_dget (hu_of hr) (pv 0) (pv 3) (fun _ _ => rfl))))))
      (pss_one (ps_ret (pe_revL (pv 2))))))), ?_⟩
    refine ⟨by show 0 ≤ sizeLine; decide, fun Lk nLk => ?_⟩
    generalize hE1 : upd H Lk _ = H1
    have w1 := new_at hE1
    have s1 := new_same hE1 nLk
    refine ⟨_, rfl, ?_⟩
    refine ⟨fun m σ H' => Same H H' ∧ ∃ (xs : List V) (ls : List (Str × Str)) (y : V), H' Lk = some (.lst xs) ∧ PrH H' xs ls ∧ σ = [some (.ref D), some (.ref g), some (.ref Lk), some y] ∧
        ((∃ (t : Addr) (a : Str × Str) (k : Nat), y = .ref t ∧ H' t = some (.tup [.str a.1, .str a.2]) ∧ Lv us ds k a ∧ ls.length + k = n ∧ Ch us (a :: ls.reverse) ∧ (a :: ls.reverse).getLast? = some goal ∧ m = k + 1) ∨
         (y = .non ∧ ls.length = n + 1 ∧ (∀ c, ls.reverse.head? = some c → c ∈ ds) ∧ ls.reverse.getLast? = some goal ∧ Ch us ls.reverse ∧ m = 0)),
      ⟨_, s1, [], [], .ref g, w1, .nil, rfl, .inl ⟨g, goal, n, rfl, s1 _ _ wg, hL, Nat.zero_add n, trivial, rfl, rfl⟩⟩, ?_⟩
    clear w1 s1 hE1
    rintro m σ H2 ⟨s2, xs, ls, y, w2, p2, rfl, hy⟩
    refine ⟨_, rfl, rfl, _, rfl, ?_⟩
    rcases hy with ⟨t, a, k, rfl, ht, ha, hlen, hch, hlast, rfl⟩ | ⟨rfl, hlen, hhead, hlast, hch, rfl⟩
    · refine iteT ⟨_, fun σ' H' h => h, ?_⟩
      refine ⟨_, rfl, .inl ⟨rfl, _, SqL.of w2⟩, _, rfl, Lk, _, _, rfl, rfl, w2, by rw [p2.len]; exact small1000 (by omega), ?_⟩
      generalize hE3 : upd H2 Lk _ = H3
      have w3 := new_at hE3
      have m3 := mut_keep hE3
      have nt3 : NotTup H2 Lk := .lst w2
      have s3 : Same H H3 := Same.own s2 m3 nLk
      have ht3 := m3 _ _ ht (nt3.ne ht)
      have p3 : PrH H3 (xs ++ [.ref t]) (ls ++ [a]) := (p2.keep m3 nt3).app (.cons ht3 .nil)
      obtain ⟨v, hv⟩ := Option.isSome_iff_exists.mp (hall a k ha)
      refine ⟨_, rfl, _, rfl, D, v, rfl, hv ▸ Or.inr ⟨kvs, key2 a, t, wD.same s3, rfl, ht3, rfl⟩, ?_⟩
      have rev : (ls ++ [a]).reverse = a :: ls.reverse := by rw [List.reverse_append]; rfl
      rcases hpr.same s3 a v hv with ⟨h0, rfl⟩ | ⟨m, t', a', h1, rfl, ht', ha', hao⟩
      · obtain rfl := ha.uniq h0
        refine ⟨0, by omega, s3, _, ls ++ [a], .non, w3, p3, rfl, .inr ⟨rfl, by rw [List.length_append]; show ls.length + 1 = n + 1; omega, fun c hc => ?_, by rw [rev]; exact hlast, by rw [rev]; exact hch, rfl⟩⟩
        rw [rev] at hc
        cases hc
        exact lv0.mp h0
      · obtain rfl := ha.uniq h1
        refine ⟨m + 1, by omega, s3, _, ls ++ [a], .ref t', w3, p3, rfl, .inl ⟨t', a', m, rfl, ht', ha', by rw [List.length_append]; show ls.length + 1 + m = n; omega, by rw [rev]; exact ⟨hao, hch⟩, ?_, rfl⟩⟩
        rw [rev, List.getLast?_cons_cons]
        exact hlast
    · refine iteF ?_
      refine ⟨_, rfl, Lk, _, rfl, SqL.of w2, fun L nL => ?_⟩
      have s3 : Same H2 (upd H2 L (.lst xs.reverse)) := same_upd nL
      exact q L _ ls.reverse _ (s2.free nL) (s2.trans s3) upd_same ((prh_rev p2).same s3) (by rw [List.length_reverse]; exact hlen) hhead hlast hch

-- SPLIT
/-! ### the refusals: a lack, a clash, a knot -/
theorem nm_small {x : Str} (h : Nm x) : ∀ c ∈ x.cps.toList, c < 16 ^ 8 := fun c hc => Nat.lt_of_le_of_lt (h.1 c hc).2 (by decide)
theorem str_len_app (a b : Str) : (a ++ b).length = a.length + b.length := PySem.Str.length_append a b
def sp_Lack_init (K : PySem.W.Frag) : Sp := fun vs H Q _ => ∃ (a l : Addr) (m : Str) (xs : List V), vs = [.ref a, .str m, .ref l] ∧ m.length ≤ 100 ∧ H l = some (.lst xs) ∧ H a = some (exo a (He.ga K "Lack") none) ∧
  ∀ dx l2 H', H dx = none → dx ≠ a → H l2 = none → l2 ≠ dx → l2 ≠ a → H' a = some (exo a (He.ga K "Lack") (some dx)) → H' dx = some (exd dx [("chain", .ref l2), ("missing", .str m)]) → H' l2 = some (.lst xs) → (∀ c o, c ≠ a → H c = some o → H' c = some o) → Q .non H'
theorem ok_Lack_init (T : Txt K mg) : FnOk P w K mg base CX0 1 (He.fAd K ("Lack", some "__init__")) T.d_Lack_init ["self", "missing", "chain"] (sp_Lack_init K) := by
  refine T.F_Lack_init.ok sc_Lack_init (fun vs H Q E h => ?_) (fun cdv A outer s H vs Q E hr h => ?_)
  · obtain ⟨a, l, m, xs, rfl, _⟩ := h
    rfl
  · obtain ⟨a, l, m, xs, rfl, hm, hl, ha, q⟩ := h
    refine ⟨_, PSs.nox (pss_cons (ps_expr (UX.pe_initO (B := "ValueError") (newId := "ValueError.__new__") (initId := "ValueError.__init__") (bmB := UX.veTail) (by rfl) T.m_UnitError T.bi_UnitError.rd T.bi_UnitError.ga T.bi_UnitError.at_ (by decide +kernel) (pa_cons (pv 0) (pa_cons (pe_joined (PJ.cons pe_str (PJ.cons (pe_fmt (pv 1)) PJ.nil))) pa_nil))))
      (pss_cons (UX.ps_fld1 (B := "ValueError") (newId := "ValueError.__new__") (initId := "ValueError.__init__") (bmB := UX.veTail) (pv 0) (pv 1) rfl)
      (pss_one (UX.ps_fld2 (B := "ValueError") (newId := "ValueError.__new__") (initId := "ValueError.__init__") (bmB := UX.veTail) (pv 0) (pe_callTy (T := "list")  call_list_of (by rfl) T.n_list (by decide +kernel) (pa_cons (pv 2) pa_nil)) rfl)))), ?_⟩
    have l0 : (Str.ofString "needed, but not on the shelf: ").length = 30 := by decide +kernel
    refine ⟨_, rfl, _, rfl, ?_, _, rfl, .inl ⟨m, rfl, Nat.le_of_lt (small1000 (by omega)), m, rfl, ?_, a, _, [_], rfl, by show 1 ≤ 1000; decide, T.ox_Lack.own, ha, ?_⟩⟩
    · rw [str_len_app, l0]
      exact Nat.le_of_lt (small1000 (show 0 + 30 ≤ 1000 by decide))
    · rw [str_len_app, str_len_app, l0]
      exact Nat.le_of_lt (small1000 (show 0 + 30 + m.length ≤ 1000 by omega))
    refine ⟨_, rfl, _, rfl, a, _, rfl, T.ox_Lack.own, T.oa_Lack_missing, ha, fun dx nd ne => ?_⟩
    generalize hE1 : upd (upd H a _) dx _ = H1
    have wdx : H1 dx = some (exd dx [("missing", .str m)]) := new_at hE1
    have wa : H1 a = some (exo a (He.ga K "Lack") (some dx)) := by rw [← hE1, upd_ne ne.symm, upd_same]
    have k1 : ∀ c o, c ≠ a → H c = some o → H1 c = some o := fun c o n e => by
      rw [← hE1, upd_ne (ne_some e nd), upd_ne n]
      exact e
    have hl1 : SqL K H1 l xs := SqL.of (k1 l _ (fun e => by rw [e, ha] at hl; cases hl) hl)
    refine ⟨_, rfl, l, _, rfl, .inl hl1, fun l2 n2 => ?_⟩
    have n2d : l2 ≠ dx := (ne_some wdx n2).symm
    have n2a : l2 ≠ a := (ne_some wa n2).symm
    refine ⟨_, rfl, a, _, dx, _, rfl, T.ox_Lack.own, T.oa_Lack_chain, by rw [upd_ne n2a.symm]; exact wa, by rw [upd_ne n2d.symm]; exact wdx, by show 1 ≤ 900; decide, ?_⟩
    have nl2 : H l2 = none := by
      rw [← hE1, upd_ne n2d, upd_ne n2a] at n2
      exact n2
    refine q dx l2 _ nd ne nl2 n2d n2a ?_ upd_same ?_ fun c o n e => ?_
    · rw [upd_ne ne.symm, upd_ne n2a.symm]
      exact wa
    · rw [upd_ne n2d, upd_same]
    · rw [upd_ne (ne_some e nd), upd_ne (ne_some e nl2)]
      exact k1 c o n e
def sp_Clash_init (K : PySem.W.Frag) : Sp := fun vs H Q _ => ∃ (a : Addr) (w : Str), vs = [.ref a, .str w] ∧ w.length ≤ 100 ∧ H a = some (exo a (He.ga K "Clash") none) ∧
  ∀ dx H', H dx = none → dx ≠ a → H' a = some (exo a (He.ga K "Clash") (some dx)) → H' dx = some (exd dx [("name", .str w)]) → (∀ c o, c ≠ a → H c = some o → H' c = some o) → Q .non H'
theorem ok_Clash_init (T : Txt K mg) : FnOk P w K mg base CX0 1 (He.fAd K ("Clash", some "__init__")) T.d_Clash_init ["self", "name"] (sp_Clash_init K) := by
  refine T.F_Clash_init.ok sc_Clash_init (fun vs H Q E h => ?_) (fun cdv A outer s H vs Q E hr h => ?_)
  · obtain ⟨a, w, rfl, _⟩ := h
    rfl
  · obtain ⟨a, w, rfl, hw, ha, q⟩ := h
    refine ⟨_, PSs.nox (pss_cons (ps_expr (UX.pe_initO (B := "ValueError") (newId := "ValueError.__new__") (initId := "ValueError.__init__") (bmB := UX.veTail) (by rfl) T.m_UnitError T.bi_UnitError.rd T.bi_UnitError.ga T.bi_UnitError.at_ (by decide +kernel) (pa_cons (pv 0) (pa_cons (pe_joined (PJ.cons pe_str (PJ.cons (pe_fmt (pv 1)) PJ.nil))) pa_nil))))
      (pss_one (UX.ps_fld1 (B := "ValueError") (newId := "ValueError.__new__") (initId := "ValueError.__init__") (bmB := UX.veTail) (pv 0) (pv 1) rfl))), ?_⟩
    have l0 : (Str.ofString "both on and off: ").length = 17 := by decide +kernel
    refine ⟨_, rfl, _, rfl, ?_, _, rfl, .inl ⟨w, rfl, Nat.le_of_lt (small1000 (by omega)), w, rfl, ?_, a, _, [_], rfl, by show 1 ≤ 1000; decide, T.ox_Clash.own, ha, ?_⟩⟩
    · rw [str_len_app, l0]
      exact Nat.le_of_lt (small1000 (show 0 + 17 ≤ 1000 by decide))
    · rw [str_len_app, str_len_app, l0]
      exact Nat.le_of_lt (small1000 (show 0 + 17 + w.length ≤ 1000 by omega))
    refine ⟨_, rfl, _, rfl, a, _, rfl, T.ox_Clash.own, T.oa_Clash_name, ha, fun dx nd ne => ?_⟩
    refine q dx _ nd ne ?_ upd_same fun c o n e => ?_
    · rw [upd_ne ne.symm, upd_same]
    · rw [upd_ne (ne_some e nd), upd_ne n]
      exact e
theorem ring_cost : ∀ r : List Str, (∀ x ∈ r, Nm x) → fmtCost r ≤ 84 * r.length
  | [], _ => Nat.zero_le _
  | x :: r, h => by
    have h1 := (h x (List.mem_cons_self ..)).2.2
    have h2 := ring_cost r fun y hy => h y (List.mem_cons_of_mem _ hy)
    rw [fmtCost_cons, List.length_cons]
    omega
def sp_Knot_init (K : PySem.W.Frag) : Sp := fun vs H Q _ => ∃ (a l : Addr) (r : List Str), vs = [.ref a, .ref l] ∧ H l = some (.lst (r.map V.str)) ∧ (∀ x ∈ r, Nm x) ∧ r.length ≤ 16 ∧ H a = some (exo a (He.ga K "Knot") none) ∧
  ∀ dx l2 H', H dx = none → dx ≠ a → H l2 = none → l2 ≠ dx → l2 ≠ a → H' a = some (exo a (He.ga K "Knot") (some dx)) → H' dx = some (exd dx [("ring", .ref l2)]) → H' l2 = some (.lst (r.map V.str)) → (∀ c o, c ≠ a → H c = some o → H' c = some o) → Q .non H'
theorem ok_Knot_init (T : Txt K mg) : FnOk P w K mg base CX0 1 (He.fAd K ("Knot", some "__init__")) T.d_Knot_init ["self", "ring"] (sp_Knot_init K) := by
  refine T.F_Knot_init.ok sc_Knot_init (fun vs H Q E h => ?_) (fun cdv A outer s H vs Q E hr h => ?_)
  · obtain ⟨a, l, r, rfl, _⟩ := h
    rfl
  · obtain ⟨a, l, r, rfl, hl, hn, few, ha, q⟩ := h
    refine ⟨_, PSs.nox (pss_cons (ps_expr (UX.pe_initO (B := "ValueError") (newId := "ValueError.__new__") (initId := "ValueError.__init__") (bmB := UX.veTail) (by rfl) T.m_UnitError T.bi_UnitError.rd T.bi_UnitError.ga T.bi_UnitError.at_ (by decide +kernel) (pa_cons (pv 0) (pa_cons (pe_joined (PJ.cons pe_str (PJ.cons (UE.pe_fmtL hr (pv 1)) PJ.nil))) pa_nil))))
      (pss_one (UX.ps_fld1 (B := "ValueError") (newId := "ValueError.__new__") (initId := "ValueError.__init__") (bmB := UX.veTail) (pv 0) (pe_callTy (T := "list")  call_list_of (by rfl) T.n_list (by decide +kernel) (pa_cons (pv 1) pa_nil)) rfl))), ?_⟩
    have hcost := ring_cost r hn
    have lo : ∀ {n : Nat}, n ≤ 10000 → n ≤ sizeLine := fun h => by rw [sizeLine_eq]; omega
    have l0 : (Str.ofString "waiting in a ring: ").length = 19 := by decide +kernel
    refine ⟨_, rfl, _, rfl, ?_, _, rfl, l, r, rfl, SqL.of hl, fun y hy => nm_small (hn y hy), lo (by omega), fun m hm => ⟨m, rfl, ?_, a, _, [_], rfl, by show 1 ≤ 1000; decide, T.ox_Knot.own, ha, ?_⟩⟩
    · rw [str_len_app, l0]
      exact lo (show 0 + 19 ≤ 10000 by decide)
    · rw [str_len_app, str_len_app, l0]
      exact lo (show 0 + 19 + m.length ≤ 10000 by omega)
    refine ⟨_, rfl, l, _, rfl, .inl (SqL.of hl), fun l2 n2 => ?_⟩
    have na2 : a ≠ l2 := ne_some ha n2
    refine ⟨_, rfl, a, _, rfl, T.ox_Knot.own, T.oa_Knot_ring, by rw [upd_ne na2]; exact ha, fun dx nd ne => ?_⟩
    have ndl : dx ≠ l2 := fun e => by rw [e, upd_same] at nd; cases nd
    rw [upd_ne ndl] at nd
    refine q dx l2 _ nd ne n2 ndl.symm na2.symm ?_ upd_same ?_ fun c o n e => ?_
    · rw [upd_ne ne.symm, upd_same]
    · rw [upd_ne ndl.symm, upd_ne na2.symm, upd_same]
    · rw [upd_ne (ne_some e nd), upd_ne n, upd_ne (ne_some e n2)]
      exact e

-- SPLIT
/-! ### all that follows, or the refusal of a lack -/
def NoLack (us : List (Str × UF)) (ds : List (Str × Str)) : Prop := ∀ d, Reach us ds d → d.2 = onS → ∀ u, fu us d.1 = some u → ∀ x ∈ u.needs, x ∈ us.map (·.1)
theorem near_reach {us : List (Str × UF)} {ds : List (Str × Str)} {n : Nat} {d : Str × Str} (h : Near us ds n d) : Reach us ds d := by
  induction h with
  | base h => exact .base h
  | step _ g ih => exact .step ih g
theorem reach_lv {us : List (Str × UF)} {ds : List (Str × Str)} {d : Str × Str} : (∃ n, Lv us ds n d) ↔ Reach us ds d := by
  refine ⟨fun ⟨n, h⟩ => near_reach h.1, fun h => ?_⟩
  have : ∃ n, Near us ds n d := by
    induction h with
    | base h => exact ⟨0, .base h⟩
    | step _ g ih =>
      obtain ⟨n, h⟩ := ih
      exact ⟨n + 1, .step h g⟩
  obtain ⟨n, h⟩ := this
  obtain ⟨m, _, h⟩ := near_lv h
  exact ⟨m, h⟩
theorem frz_same {H0 H H1 H2 H3 : Hp} {d : Addr} {u : HO} {o : Obj} (s0 : Same H0 H) (nd : H0 d = none) (e1 : upd H d (.frz o u) = H1) (s : Same H1 H2) (e3 : upd H2 d u = H3) : Same H0 H1 ∧ Same H0 H2 ∧ Same H0 H3 :=
  ⟨Same.own s0 (mut_keep e1) nd, (Same.own s0 (mut_keep e1) nd).trans s, Same.own ((Same.own s0 (mut_keep e1) nd).trans s) (mut_keep e3) nd⟩
def sp_followed (K : PySem.W.Frag) : Sp := fun vs H Q E => ∃ (p l : Addr) (us : List (Str × UF)) (xs : List V) (ds : List (Str × Str)), vs = [.ref p, .ref l] ∧ ShelfAt K H p us ∧ Nms us ∧ (∀ p ∈ us, p.2.needs.length ≤ 100) ∧ (∀ p ∈ us, ∀ x ∈ p.2.needs, x.length ≤ 100) ∧ SqL K H l xs ∧ PrH H xs ds ∧ (∀ d ∈ ds, WD us d) ∧
  (NoLack us ds → ∀ D ys (es : List (Str × Str)) H', H D = none → Same H H' → H' D = some (.lst ys) → PrH H' ys (srtP es) → es.Nodup → (∀ d, d ∈ es ↔ Reach us ds d) → Q (.ref D) H') ∧
  (¬ NoLack us ds → ∀ m d l2 H', H d = none → H' d = some (.xd [("chain", .ref l2), ("missing", .str m)]) → Same H H' → E (.ref (He.ga K "Lack")) (some d) H')
theorem ok_followed (T : Txt K mg) : FnOk P w K mg base (L2N.CX P w) 6 (He.fAd K ("followed", none)) T.d_followed ["shelf", "demands"] (sp_followed K) := by
  refine T.F_followed.ok sc_followed (fun vs H Q E h => ?_) (fun cdv A outer s H vs Q E hr h => ?_)
  · obtain ⟨p, l, us, xs, ds, rfl, _⟩ := h
    rfl
  · obtain ⟨p, l, us, xs, ds, rfl, hS, hN, hF, hX, hl, hP, hW, q, qx⟩ := h
    refine ⟨_, (pss_cons (ps_set (i := 2) sc_followed.nd rfl (Or.inl rfl) (pe_call (ok_causes T) (hr.mono (by decide)) (by rfl) T.m_causes T.F_causes.kp T.b_causes .nil pass0 (pa_cons (pv 0) (pa_cons (pv 1) pa_nil))))
      (pss_cons (ps_lock (ps_for (passes_of rfl) rfl (pi_keys (pv 2)) (pg_tup rfl (pgs_cons (pg_name (i := 3) sc_followed.nd rfl (Or.inl rfl)) (pgs_cons (pg_name (i := 4) sc_followed.nd rfl (Or.inl rfl)) pgs_nil)))
      (pss_cons (ps_set (i := 5) sc_followed.nd rfl (Or.inl rfl) (pe_mid (pe_ifExp (pt_cmpR op_eq (pv 4) pe_str (nomark _)) (pe_fld (pe_meth (pv 0) T.cl_Shelf T.me_Shelf_unit (ok_Shelf_unit T) (hr.mono (by decide)) T.b_Shelf_unit .nil pass0 (pa_cons (pv 3) pa_nil)) rfl) (pe_tup pa_nil))))
      (pss_cons (ps_setLc (i := 6) (own := [("other", 7)]) (by rfl) sc_followed.nd rfl rfl (sw_true rfl rfl rfl (by decide +kernel)) (pi_tup (pv 5)) (blkOk_by (own := [("other", 7)]) (N := N_followed) (sc := defScope s_followed) (by decide +kernel)) (fun _ _ _ _ _ => (pg_name (i := 7) sc_followed.nd rfl (Or.inl rfl))) (fun _ _ _ _ _ => by exact (pts_one (pt_not (pt_val (pe_meth (pv 0) T.cl_Shelf T.me_Shelf_has (ok_Shelf_has T) (hr.mono (by decide)) T.b_Shelf_has .nil pass0 (pa_cons (pv 7) pa_nil)))))) (fun _ _ _ _ _ => (pv 7)))
      (pss_one (ps_if (pt_cmpR op_gt (pe_callB (id := "len")  call_len_seq (by rfl) T.n_len (by decide +kernel) (pa_cons (pv 6) pa_nil)) pe_int (nomark _))
      (pss_one (L2N.ps_raise (by rfl) (L2N.takes_of rfl rfl rfl rfl) (UX.pm_own T.ox_Lack.own T.ox_Lack.init T.ox_Lack.fn (ok_Lack_init T) (hr.mono (by decide)) T.b_Lack_init pass0 (by rfl) T.m_Lack (pa_cons (pe_ix ix_list (pv 6) pe_int (fun _ _ => rfl)) (pa_cons (pe_call (ok_chain_to T) (hr.mono (by decide)) (by rfl) T.m_chain_to T.F_chain_to.kp T.b_chain_to .nil pass0 (pa_cons (pv 2) (pa_cons (pe_tup (pa_cons (pv 3) (pa_cons (pv 4) pa_nil))) pa_nil))) pa_nil)))))
      pss_nil))))))
      (pss_one (ps_ret (pe_callB (id := "sorted")  (UD.cr_sortDT rfl hr.units) (by rfl) T.n_sorted (by decide +kernel) (pa_cons (pv 2) pa_nil)))))), ?_⟩
    refine ⟨_, rfl, _, rfl, p, l, us, xs, ds, rfl, hS, hN, hF, hl, hP, hW, fun D kvs es H1 nD s1 w1 hk hn hmL hpr => ?_⟩
    have hm : ∀ d, d ∈ es ↔ Reach us ds d := fun d => (hmL d).trans reach_lv
    have hall : ∀ d n, Lv us ds n d → (valV kvs (key2 d)).isSome = true := fun d n h => by
      rw [val2 hk]
      exact decide_eq_true ((hmL d).mpr ⟨n, h⟩)
    have few := wd_few hN hn fun d hd => reach_wd hW ((hm d).mp hd)
    refine ⟨D, _, w1, trivial, fun od => ?_⟩
    generalize hE2 : upd H1 D _ = H2
    have w2 := new_at hE2
    have m2 := mut_keep hE2
    have hpr2 := hpr.keep m2 (UD.NotTup.dT w1)
    have s02 : Same H H2 := Same.own s1 m2 nD
    refine ⟨_, rfl, D, od, rfl, .inr ⟨kvs, w2, ?_⟩⟩
    refine for_it walk_keysT (fun i σ H' => Same H2 H' ∧ (∀ d ∈ es.take i, d.2 = onS → ∀ u, fu us d.1 = some u → ∀ x ∈ u.needs, x ∈ us.map (·.1)) ∧ ∃ y3 y4 y5 y6 y7 : Option V, σ = [some (.ref p), some (.ref l), some (.ref D), y3, y4, y5, y6, y7]) ⟨Same.refl _, (fun d hd => nomatch hd), _, _, _, _, _, rfl⟩ (fun i σ H' _ h => h.1 _ _ w2) ?_ ?_
    · rintro i x σ H3 H3' hi ⟨s3, ok3, y3, y4, y5, y6, y7, rfl⟩ ⟨rfl, k, v, t, hkv, rfl, ht⟩
      obtain ⟨d, hd, hde⟩ : ∃ d, es[i]? = some d ∧ k = key2 d := by
        have e1 : (kvs.map (·.1))[i]? = some k := by rw [List.getElem?_map, hkv]; rfl
        rw [hk, List.getElem?_map] at e1
        cases e2 : es[i]? with
        | none => rw [e2] at e1; cases e1
        | some d => rw [e2] at e1; exact ⟨d, rfl, (Option.some.inj e1).symm⟩
      subst hde
      have hdr : Reach us ds d := (hm d).mp (List.mem_of_getElem? hd)
      have hwd := reach_wd hW hdr
      have s03 := s02.trans s3
      refine ⟨t, _, rfl, SqT.of ht, rfl, _, _, rfl, _, _, rfl, rfl, ?_⟩
      obtain ⟨dx, dd, kv0, hp, _⟩ := id (hS.same s03)
      -- needs
      refine ⟨fun v H' => Same H3' H' ∧ ∃ (tn : Addr) (zs : List Str), v = .ref tn ∧ SqT K H' tn (zs.map V.str) ∧ zs.length ≤ 100 ∧ (∀ x ∈ zs, x.length ≤ 100) ∧ (d.2 = onS → ∀ u, fu us d.1 = some u → u.needs = zs) ∧ (zs ≠ [] → d.2 = onS ∧ ∃ u, fu us d.1 = some u ∧ u.needs = zs), ?_, ?_⟩
      · refine ⟨_, rfl, rfl, _, rfl, ?_⟩
        show if decide (V.str d.2 = V.str onS) = true then _ else _
        by_cases c : d.2 = onS
        · rw [show decide (V.str d.2 = V.str onS) = true from decide_eq_true (by rw [c])]
          refine iteT ⟨_, rfl, p, dx, _, rfl, hp, rfl, _, rfl, p, d.1, us, rfl, hS.same s03, hN, hwd.1, fun a u hu hA => ?_⟩
          obtain ⟨dxu, n1, n2, n3, n4, r, ha, hn1, _⟩ := id hA
          refine ⟨a, _, dxu, _, _, rfl, ha, T.cl_Unit, T.na_Unit_needs, rfl, Same.refl _, n1, u.needs, rfl, hn1, hF _ hu, hX _ hu, fun _ u' hu' => ?_, fun _ => ⟨c, u, fu_some hN.nd hu, rfl⟩⟩
          rw [fu_some hN.nd hu] at hu'
          cases hu'
          rfl
        · rw [show decide (V.str d.2 = V.str onS) = false from decide_eq_false fun z => c (by injection z)]
          exact iteF ⟨by show 0 ≤ sizeLine; decide, fun t2 n2 => ⟨same_upd n2, t2, [], rfl, SqT.of upd_same, Nat.zero_le _, (fun x hx => nomatch hx), fun z => absurd z c, fun z => absurd rfl z⟩⟩
      rintro v H4 ⟨s4, tn, zs, rfl, htn, zl, zsh, zon, zne⟩
      -- missing
      refine ⟨_, rfl, tn, rfl, ⟨_, htn⟩, fun Dm nDm => ?_⟩
      refine lc_tup (xs := zs.map V.str) (fun i H' => Same H4 H' ∧ H' Dm = some (.lst (((zs.take i).filter fun x => decide (x ∉ us.map (·.1))).map V.str))) ⟨same_upd nDm, upd_same⟩ (fun i H' _ h => tup_same h.1 htn) ?_ ?_
      · rintro j x H5 hj ⟨s5, w5⟩
        obtain ⟨o, ho, rfl⟩ := map_str_get hj
        have s05 := (s03.trans s4).trans s5
        obtain ⟨dx, dd, kv0, hp, _⟩ := id (hS.same s05)
        refine ⟨rfl, _, rfl, p, dx, _, rfl, hp, rfl, _, rfl, p, o, us, rfl, hS.same s05, hN, ?_⟩
        rw [take_filter_snoc _ ho]
        by_cases c : o ∈ us.map (·.1)
        · rw [decide_eq_true c]
          refine ⟨true, rfl, iteF ⟨s5, ?_⟩⟩
          rw [if_neg (by rw [decide_eq_false (fun z => z c)]; exact Bool.false_ne_true), List.append_nil]
          exact w5
        · rw [decide_eq_false c]
          refine ⟨false, rfl, iteT ⟨_, rfl, _, w5, ?_, Same.own (q := Dm) s5 (mut_keep rfl) nDm, ?_⟩⟩
          · rw [List.length_map]
            exact Nat.lt_of_le_of_lt (List.length_filter_le _ _) (Nat.lt_of_le_of_lt (List.length_take_le' ..) (small1000 (by omega)))
          · rw [upd_same, if_pos (decide_eq_true c), List.map_append]
            rfl
      rintro H5 ⟨s5, w5⟩
      rw [List.length_map, List.take_length] at w5
      have s35 := (s3.trans s4).trans s5
      have s05 := s02.trans s35
      cases e : zs.filter (fun x => decide (x ∉ us.map (·.1))) with
      | nil =>
        rw [e] at w5
        refine ⟨_, rfl, Dm, _, rfl, .inl (SqL.of w5), _, _, rfl, rfl, _, rfl, iteNd (by decide) ?_⟩
        refine ⟨s35, fun d' hd' => ?_, _, _, _, _, _, rfl⟩
        rw [take_snoc hd] at hd'
        rcases List.mem_append.mp hd' with h | h
        · exact ok3 d' h
        · rw [List.mem_singleton.mp h]
          intro on u hu x hx
          rw [zon on u hu] at hx
          exact Classical.byContradiction fun c => by
            have : x ∈ zs.filter (fun x => decide (x ∉ us.map (·.1))) := List.mem_filter.mpr ⟨hx, decide_eq_true c⟩
            rw [e] at this
            cases this
      | cons m ms =>
        rw [e] at w5
        have hmz : m ∈ zs ∧ m ∉ us.map (·.1) := by
          have : m ∈ zs.filter (fun x => decide (x ∉ us.map (·.1))) := by rw [e]; exact List.mem_cons_self
          obtain ⟨h1, h2⟩ := List.mem_filter.mp this
          exact ⟨h1, of_decide_eq_true h2⟩
        have bad : ¬ NoLack us ds := fun no => by
          obtain ⟨on, u, hu, hz⟩ := zne (List.ne_nil_of_mem hmz.1)
          exact hmz.2 (no d hdr on u hu m (by rw [hz]; exact hmz.1))
        refine ⟨_, rfl, Dm, _, rfl, .inl (SqL.of w5), _, _, rfl, rfl, _, rfl, iteYd (by rw [List.length_map, List.length_cons]; omega) ?_⟩
        obtain ⟨n, hL⟩ := reach_lv.mpr hdr
        have hnf := lv_few hL fun d n h => (hmL d).mpr ⟨n, h⟩
        refine ⟨_, rfl, Dm, _, _, _, rfl, rfl, SqL.of w5, at0, ?_⟩
        refine ⟨_, rfl, _, rfl, _, rfl, by show 2 ≤ sizeLine; decide, fun tg ntg => ?_⟩
        generalize hE6 : upd H5 tg _ = H6
        have w6 := new_at hE6
        have s6 := new_same hE6 ntg
        refine ⟨D, tg, us, ds, kvs, d, n, rfl, .inr ⟨od, s6 _ _ (s35 _ _ w2)⟩, w6, (hpr2.same s35).same s6, hall, hL, by omega, fun L ys cs H7 nL s7 wL pL hlen hh hlast hch => ?_⟩
        have s07 := (s05.trans s6).trans s7
        refine ⟨by show 2 ≤ 1000; decide, fun x nx => ?_⟩
        refine ⟨x, L, m, ys, rfl, zsh m hmz.1, by rw [upd_ne (ne_some wL nx)]; exact wL, upd_same, fun ex l2 H8 nex ne nl2 nlex nlx w8 w8d w8l k8 => ⟨rfl, ex, _, w8, w8d, ?_, ?_⟩⟩
        · rw [upd_ne ne] at nex
          exact nex
        · rw [upd_ne ne] at nex
          refine qx bad m ex l2 _ (s07.free nex) upd_same fun b o e => ?_
          have e2 := s07 _ _ e
          have nb : b ≠ x := ne_some e2 nx
          rw [upd_ne (ne_some e2 nex), del_ne nb]
          exact k8 b o nb (by rw [upd_ne nb]; exact e2)
    · rintro σ H3 ⟨s3, ok3, y3, y4, y5, y6, y7, rfl⟩
      have hkl : kvs.length = es.length := by
        have := congrArg List.length hk
        rwa [List.length_map, List.length_map] at this
      rw [hkl, List.take_length] at ok3
      refine ⟨s3 _ _ w2, ?_⟩
      generalize hE4 : upd H3 D _ = H4
      have w4 := new_at hE4
      obtain ⟨_, _, s04⟩ := frz_same s1 nD hE2 s3 hE4
      refine ⟨_, rfl, D, kvs, es, rfl, .inl w4, hk, by omega, fun R ys nR py => ?_⟩
      exact q (fun d h => ok3 d ((hm d).mpr h)) R ys es _ (s04.free nR) (s04.trans (same_upd nR)) upd_same (py.same (same_upd nR)) hn hm

-- SPLIT
/-! ### the law's own following -/
/-- behind a lock all is as ahead -/
theorem unlock {H H1 H2 H3 : Hp} {d : Addr} {u : HO} {o : Obj} (hd : H d = some u) (e1 : upd H d (.frz o u) = H1) (s : Same H1 H2) (e3 : upd H2 d u = H3) : Same H H3 := fun c x e => by
  by_cases c0 : c = d
  · subst c0
    rw [hd] at e
    cases e
    exact new_at e3
  · exact (mut_keep e3) _ _ (s _ _ ((mut_keep e1) _ _ e c0)) c0
/-- no unit bars itself -/
def NBr (us : List (Str × UF)) : Prop := ∀ p ∈ us, p.1 ∉ p.2.bars
def sp_law_needing (K : PySem.W.Frag) : Sp := fun vs H Q _ => ∃ (d : Addr) (w : Str) (us : List (Str × UF)), vs = [.ref d, .str w] ∧ LF K H d us ∧
  ∀ l H', H l = none → Same H H' → H' l = some (.lst ((nd us w).map V.str)) → Q (.ref l) H'
theorem ok_law_needing (T : Txt K mg) : FnOk P w K mg base CX0 1 (He.fAd K ("_law_needing", none)) T.d_law_needing ["_law_facts_here", "_law_word"] (sp_law_needing K) := by
  refine T.F_law_needing.ok sc_law_needing (fun vs H Q E h => ?_) (fun cdv A outer s H vs Q E hr h => ?_)
  · obtain ⟨d, w, us, rfl, _⟩ := h
    rfl
  · obtain ⟨d, w, us, rfl, hF, q⟩ := h
    refine ⟨_, PSs.nox (pss_one (ps_ret (pe_callB (id := "sorted")  cr_sortedS (by rfl) T.n_sorted (by decide +kernel) (pa_cons (pe_lock (pe_lc (own := [("_law_one", 2)]) (by rfl) sc_law_needing.nd (pi_keys (pv 0)) (blkOk_by (own := [("_law_one", 2)]) (N := N_law_needing) (sc := defScope s_law_needing) (by decide +kernel)) (fun _ _ _ _ _ => (pg_name (i := 2) sc_law_needing.nd rfl (Or.inl rfl))) (fun _ _ _ _ _ => (pts_one (pt_cmpR (r := rIn K false) op_in_seq (pv 1) (pe_ix (r := rIxT K) ix_tup (pe_dget (hu_of hr) (pv 0) (pv 2) (fun _ _ => rfl)) pe_int (fun _ _ => rfl)) (by rfl)))) (fun _ _ _ _ _ => (pv 2)))) pa_nil)))), ?_⟩
    obtain ⟨kvs, hd, ht⟩ := hF.ex
    have hN := hF.nms
    refine ⟨d, _, hd, trivial, fun od => ?_⟩
    generalize hE2 : upd H d _ = H2
    have wd := new_at hE2
    have m2 := mut_keep hE2
    have ht2 := FTab.keep ht m2 (.dK hd)
    refine ⟨_, rfl, d, od, rfl, .inl ⟨kvs, wd, fun D nD => ?_⟩⟩
    have ndD : d ≠ D := ne_some wd nD
    have few := hN.few
    refine lc_it walk_keys (fun i H' => Same H2 H' ∧ H' D = some (.lst ((((us.map (·.1)).take i).filter (needB us w)).map V.str))) ⟨same_upd nD, upd_same⟩ (fun i H' _ h => h.1 _ _ wd) ?_ ?_
    · rintro i x H3 H3' hi ⟨s3, w3⟩ ⟨rfl, k, v, hk, rfl⟩
      obtain ⟨o, uo, rfl, huo, r⟩ := ht2.at hk
      have hoo : (us.map (·.1))[i]? = some o := by rw [List.getElem?_map, huo]; rfl
      have huom := List.mem_of_getElem? huo
      have wb : needB us w o = decide (w ∈ uo.needs) := by
        unfold needB
        rw [fu_some hN.nd huom]
      obtain ⟨v2, hv2, t2, o1, o2, o3, o4, g2, rfl, wo0, wo1, _⟩ := ht2.get hN.nd (o, uo) huom
      refine ⟨rfl, _, rfl, _, rfl, _, rfl, d, .ref t2, rfl, by rw [← hv2]; exact .inl ⟨kvs, Sum.inr o, .inr ⟨od, s3 _ _ wd⟩, rfl, rfl⟩, t2, _, _, _, rfl, rfl, tup_same s3 wo0, at1, o1, _, rfl, .inr (tup_same s3 wo1), rfl, strs_flat _, _, rfl, ?_⟩
      rw [inV_str, take_filter_snoc _ hoo, wb]
      by_cases c : w ∈ uo.needs
      · rw [decide_eq_true c]
        refine iteT ⟨_, rfl, _, w3, ?_, Same.own (q := D) s3 (mut_keep rfl) nD, ?_⟩
        · rw [List.length_map]
          refine Nat.lt_of_le_of_lt (List.length_filter_le _ _) (Nat.lt_of_le_of_lt (List.length_take_le' ..) (small1000 ?_))
          rw [List.length_map]
          omega
        · rw [upd_same, if_pos rfl, List.map_append]
          rfl
      · rw [decide_eq_false c]
        refine iteF ⟨s3, ?_⟩
        rw [if_neg Bool.false_ne_true, List.append_nil]
        exact w3
    rintro H3 ⟨s3, w3⟩
    rw [ht.len, show us.length = (us.map (·.1)).length by rw [List.length_map], List.take_length] at w3
    have wd3 := s3 _ _ wd
    refine ⟨wd3, ?_⟩
    generalize hE4 : upd H3 d _ = H4
    have m4 := mut_keep hE4
    have s14 : Same H H4 := unlock hd hE2 s3 hE4
    have w4 := m4 _ _ w3 ndD.symm
    refine ⟨D, _, rfl, SqL.of w4, ?_, fun ys p hy hs np => ?_⟩
    · refine Nat.lt_of_le_of_lt (List.length_filter_le _ _) ?_
      rw [List.length_map]
      omega
    obtain rfl := srt_of hy hs
    rw [srt_filter]
    exact q p _ (s14.free np) (s14.trans (same_upd np)) upd_same
def sp_law_barred (K : PySem.W.Frag) : Sp := fun vs H Q _ => ∃ (d : Addr) (w : Str) (us : List (Str × UF)), vs = [.ref d, .str w] ∧ LF K H d us ∧ NBr us ∧ w ∈ us.map (·.1) ∧
  ∀ l H', H l = none → Same H H' → H' l = some (.lst ((br us w).map V.str)) → Q (.ref l) H'
theorem ok_law_barred (T : Txt K mg) : FnOk P w K mg base CX0 1 (He.fAd K ("_law_barred", none)) T.d_law_barred ["_law_facts_here", "_law_word"] (sp_law_barred K) := by
  refine T.F_law_barred.ok sc_law_barred (fun vs H Q E h => ?_) (fun cdv A outer s H vs Q E hr h => ?_)
  · obtain ⟨d, w, us, rfl, _⟩ := h
    rfl
  · obtain ⟨d, w, us, rfl, hF, hB, hw, q⟩ := h
    refine ⟨_, PSs.nox (pss_one (ps_ret (pe_callB (id := "sorted")  cr_sortedS (by rfl) T.n_sorted (by decide +kernel) (pa_cons (pe_lock (pe_lc (own := [("_law_one", 2)]) (by rfl) sc_law_barred.nd (pi_keys (pv 0)) (blkOk_by (own := [("_law_one", 2)]) (N := N_law_barred) (sc := defScope s_law_barred) (by decide +kernel)) (fun _ _ _ _ _ => (pg_name (i := 2) sc_law_barred.nd rfl (Or.inl rfl))) (fun _ _ _ _ _ => (pts_one (PW.pt (pw_and (pt_cmpR op_ne (pv 2) (pv 1) (nomark _)) (pw_and1 (PW.pt (pw_or (pt_cmpR (r := rIn K false) op_in_seq (pv 2) (pe_ix (r := rIxT K) ix_tup (pe_dget (hu_of hr) (pv 0) (pv 1) (fun _ _ => rfl)) pe_int (fun _ _ => rfl)) (by rfl)) (pw_or1 (pt_cmpR (r := rIn K false) op_in_seq (pv 1) (pe_ix (r := rIxT K) ix_tup (pe_dget (hu_of hr) (pv 0) (pv 2) (fun _ _ => rfl)) pe_int (fun _ _ => rfl)) (by rfl)))))))))) (fun _ _ _ _ _ => (pv 2)))) pa_nil)))), ?_⟩
    obtain ⟨kvs, hd, ht⟩ := hF.ex
    have hN := hF.nms
    obtain ⟨u, hfu, hu⟩ := fu_of hw hN.nd
    refine ⟨d, _, hd, trivial, fun od => ?_⟩
    generalize hE2 : upd H d _ = H2
    have wd := new_at hE2
    have m2 := mut_keep hE2
    have ht2 := FTab.keep ht m2 (.dK hd)
    refine ⟨_, rfl, d, od, rfl, .inl ⟨kvs, wd, fun D nD => ?_⟩⟩
    have ndD : d ≠ D := ne_some wd nD
    have few := hN.few
    obtain ⟨v1, hv1, t1, q1, q2, q3, q4, g1, rfl, wq0, wq1, wq2, wq3, _⟩ := ht2.get hN.nd (w, u) hu
    refine lc_it walk_keys (fun i H' => Same H2 H' ∧ H' D = some (.lst ((((us.map (·.1)).take i).filter (barB us w)).map V.str))) ⟨same_upd nD, upd_same⟩ (fun i H' _ h => h.1 _ _ wd) ?_ ?_
    · rintro i x H3 H3' hi ⟨s3, w3⟩ ⟨rfl, k, v, hk, rfl⟩
      obtain ⟨o, uo, rfl, huo, r⟩ := ht2.at hk
      have hoo : (us.map (·.1))[i]? = some o := by rw [List.getElem?_map, huo]; rfl
      have huom := List.mem_of_getElem? huo
      have hfo := fu_some hN.nd huom
      have wb : barB us w o = (decide (o ∈ u.bars) || decide (w ∈ uo.bars)) := by
        unfold barB
        rw [hfu, hfo]
      have hll : ((((us.map (·.1)).take i).filter (barB us w)).map V.str).length < sizeLine := by
        rw [List.length_map]
        refine Nat.lt_of_le_of_lt (List.length_filter_le _ _) (Nat.lt_of_le_of_lt (List.length_take_le' ..) (small1000 ?_))
        rw [List.length_map]
        omega
      have yes : barB us w o = true → Same H2 (upd H3' D (.lst (((((us.map (·.1)).take i).filter (barB us w)).map V.str) ++ [.str o]))) ∧ (upd H3' D (.lst (((((us.map (·.1)).take i).filter (barB us w)).map V.str) ++ [.str o]))) D = some (.lst ((((us.map (·.1)).take (i + 1)).filter (barB us w)).map V.str)) := fun c => by
        refine ⟨Same.own (q := D) s3 (mut_keep rfl) nD, ?_⟩
        rw [upd_same, take_filter_snoc _ hoo, if_pos c, List.map_append]
        rfl
      have no : barB us w o = false → Same H2 H3' ∧ H3' D = some (.lst ((((us.map (·.1)).take (i + 1)).filter (barB us w)).map V.str)) := fun c => by
        refine ⟨s3, ?_⟩
        rw [take_filter_snoc _ hoo, if_neg (by rw [c]; exact Bool.false_ne_true), List.append_nil]
        exact w3
      refine ⟨rfl, _, rfl, _, rfl, rfl, _, rfl, ?_⟩
      show if (!decide (V.str o = V.str w)) = true then _ else _
      by_cases c0 : o = w
      · subst c0
        refine neF (no ?_)
        have e : uo = u := Option.some.inj (hfo.symm.trans hfu)
        rw [wb, e, decide_eq_false (hB _ hu)]
        rfl
      rw [decide_eq_false (show ¬ V.str o = V.str w from fun z => c0 (by injection z))]
      refine iteT ?_
      refine ⟨_, rfl, _, rfl, _, rfl, d, .ref t1, rfl, by rw [← hv1]; exact .inl ⟨kvs, Sum.inr w, .inr ⟨od, s3 _ _ wd⟩, rfl, rfl⟩, t1, _, _, _, rfl, rfl, tup_same s3 wq0, at3, q3, _, rfl, .inr (tup_same s3 wq3), rfl, strs_flat _, _, rfl, ?_⟩
      rw [show inV (kV (Sum.inr o)) (u.bars.map V.str) = decide (o ∈ u.bars) from inV_str _ _]
      by_cases c1 : o ∈ u.bars
      · rw [decide_eq_true c1] at wb ⊢
        exact iteT (iteT ⟨_, rfl, _, w3, hll, yes (by rw [wb]; rfl)⟩)
      rw [decide_eq_false c1] at wb ⊢
      obtain ⟨v2, hv2, t2, o1, o2, o3, o4, g2, rfl, wo0, wo1, wo2, wo3, _⟩ := ht2.get hN.nd (o, uo) huom
      refine iteF ⟨_, rfl, _, rfl, _, rfl, d, .ref t2, rfl, by rw [← hv2]; exact .inl ⟨kvs, Sum.inr o, .inr ⟨od, s3 _ _ wd⟩, rfl, rfl⟩, t2, _, _, _, rfl, rfl, tup_same s3 wo0, at3, o3, _, rfl, .inr (tup_same s3 wo3), rfl, strs_flat _, _, rfl, ?_⟩
      rw [inV_str]
      by_cases c3 : w ∈ uo.bars
      · rw [decide_eq_true c3] at wb ⊢
        exact iteT ⟨_, rfl, _, w3, hll, yes (by rw [wb]; rfl)⟩
      · rw [decide_eq_false c3] at wb ⊢
        exact iteF (no (by rw [wb]; rfl))
    rintro H3 ⟨s3, w3⟩
    rw [ht.len, show us.length = (us.map (·.1)).length by rw [List.length_map], List.take_length] at w3
    have wd3 := s3 _ _ wd
    refine ⟨wd3, ?_⟩
    generalize hE4 : upd H3 d _ = H4
    have m4 := mut_keep hE4
    have s14 : Same H H4 := unlock hd hE2 s3 hE4
    have w4 := m4 _ _ w3 ndD.symm
    refine ⟨D, _, rfl, SqL.of w4, ?_, fun ys p hy hs np => ?_⟩
    · refine Nat.lt_of_le_of_lt (List.length_filter_le _ _) ?_
      rw [List.length_map]
      omega
    obtain rfl := srt_of hy hs
    rw [srt_filter]
    exact q p _ (s14.free np) (s14.trans (same_upd np)) upd_same
def nx (us : List (Str × UF)) (d : Str × Str) : List (Str × Str) :=
  if d.2 = offS then (nd us d.1).map (·, offS) else (ned us d.1).map (·, onS) ++ (br us d.1).map (·, offS)
theorem nx_mem {us : List (Str × UF)} {a b : Str × Str} : b ∈ nx us a ↔ b ∈ ao us a := by
  unfold nx ao
  by_cases c : a.2 = offS
  · rw [if_pos c, if_pos c]
  · rw [if_neg c, if_neg c, srtP_mem]
def sp_law_next (K : PySem.W.Frag) : Sp := fun vs H Q _ => ∃ (d t : Addr) (us : List (Str × UF)) (a : Str × Str), vs = [.ref d, .ref t] ∧ LF K H d us ∧ NBr us ∧ SqT K H t [.str a.1, .str a.2] ∧ a.1 ∈ us.map (·.1) ∧
  ∀ l xs H', H l = none → Same H H' → H' l = some (.lst xs) → PrH H' xs (nx us a) → (nx us a).length ≤ 120 → Q (.ref l) H'
theorem ok_law_next (T : Txt K mg) : FnOk P w K mg base CX0 2 (He.fAd K ("_law_next", none)) T.d_law_next ["_law_facts_here", "_law_demand"] (sp_law_next K) := by
  refine T.F_law_next.ok sc_law_next (fun vs H Q E h => ?_) (fun cdv A outer s H vs Q E hr h => ?_)
  · obtain ⟨d, t, us, a, rfl, _⟩ := h
    rfl
  · obtain ⟨d, t, us, a, rfl, hF, hB, ht, ha, q⟩ := h
    refine ⟨_, PSs.nox (pss_cons (ps_asg (pv 1) (pg_tup rfl (pgs_cons (pg_name (i := 2) sc_law_next.nd rfl (Or.inl rfl)) (pgs_cons (pg_name (i := 3) sc_law_next.nd rfl (Or.inl rfl)) pgs_nil))))
      (pss_cons (ps_if (pt_cmpR op_eq (pv 3) pe_str (nomark _))
      (pss_one (ps_ret (pe_lc (own := [("_law_one", 5)]) (by rfl) sc_law_next.nd (pi_list (pe_call (ok_law_needing T) (hr.mono (by decide)) (by rfl) T.m_law_needing T.F_law_needing.kp T.b_law_needing .nil pass0 (pa_cons (pv 0) (pa_cons (pv 2) pa_nil)))) (blkOk_by (own := [("_law_one", 5)]) (N := N_law_next) (sc := defScope s_law_next) (by decide +kernel)) (fun _ _ _ _ _ => (pg_name (i := 5) sc_law_next.nd rfl (Or.inl rfl))) (fun _ _ _ _ _ => pts_nil) (fun _ _ _ _ _ => (pe_tup (pa_cons (pv 5) (pa_cons pe_str pa_nil)))))))
      pss_nil)
      (pss_cons (ps_setLc (i := 4) (own := [("_law_one", 5)]) (by rfl) sc_law_next.nd rfl rfl (sw_true rfl rfl rfl (by decide +kernel)) (pi_tup (pe_ix ix_tup (pe_dget (hu_of hr) (pv 0) (pv 2) (fun _ _ => rfl)) pe_int (fun _ _ => rfl))) (blkOk_by (own := [("_law_one", 5)]) (N := N_law_next) (sc := defScope s_law_next) (by decide +kernel)) (fun _ _ _ _ _ => (pg_name (i := 5) sc_law_next.nd rfl (Or.inl rfl))) (fun _ _ _ _ _ => (pts_one (pt_cmp (pc_din (hu_of hr) (pv 5) (pv 0))))) (fun _ _ _ _ _ => (pe_tup (pa_cons (pv 5) (pa_cons pe_str pa_nil)))))
      (pss_one (ps_ret (pe_op op_cat (pv 4) (pe_lc (own := [("_law_one", 5)]) (by rfl) sc_law_next.nd (pi_list (pe_call (ok_law_barred T) (hr.mono (by decide)) (by rfl) T.m_law_barred T.F_law_barred.kp T.b_law_barred .nil pass0 (pa_cons (pv 0) (pa_cons (pv 2) pa_nil)))) (blkOk_by (own := [("_law_one", 5)]) (N := N_law_next) (sc := defScope s_law_next) (by decide +kernel)) (fun _ _ _ _ _ => (pg_name (i := 5) sc_law_next.nd rfl (Or.inl rfl))) (fun _ _ _ _ _ => pts_nil) (fun _ _ _ _ _ => (pe_tup (pa_cons (pv 5) (pa_cons pe_str pa_nil))))))))))), ?_⟩
    have hN := hF.nms
    refine ⟨_, rfl, t, _, rfl, ht, rfl, _, _, rfl, _, _, rfl, rfl, ?_⟩
    refine ⟨_, rfl, rfl, _, rfl, ?_⟩
    show if decide (V.str a.2 = V.str offS) = true then _ else _
    by_cases c : a.2 = offS
    · rw [show decide (V.str a.2 = V.str offS) = true from decide_eq_true (by rw [c])]
      refine iteT ?_
      refine ⟨_, rfl, _, rfl, d, _, us, rfl, hF, fun l H1 nl s1 wl => ?_⟩
      refine ⟨l, rfl, ⟨_, SqL.of wl⟩, fun D nD => ?_⟩
      refine lc_list (xs := (nd us a.1).map V.str) (fun i H' => Same H1 H' ∧ ∃ xs, H' D = some (.lst xs) ∧ PrH H' xs (((nd us a.1).take i).map (·, offS))) ⟨same_upd nD, [], upd_same, .nil⟩ (fun i H' _ h => SqL.of (h.1 _ _ wl)) ?_ ?_
      · rintro i x H2 hi ⟨s2, xs, w2, p2⟩
        obtain ⟨o, ho, rfl⟩ := map_str_get hi
        refine ⟨rfl, yes_of (iteT ⟨_, rfl, by show 2 ≤ sizeLine; decide, fun t2 n2 => ⟨xs, same_upd n2 _ _ w2, ?_, ?_⟩⟩)⟩
        · rw [p2.len, List.length_map]
          exact Nat.lt_of_le_of_lt (List.length_take_le' ..) (Nat.lt_of_le_of_lt (filt_len hN _) (small1000 (by decide)))
        · rw [take_snoc ho, List.map_append]
          exact pair_put s2 nD w2 p2 n2
      · rintro H2 ⟨s2, xs, w2, p2⟩
        rw [List.length_map, List.take_length] at p2
        have e : nx us a = (nd us a.1).map (·, offS) := by
          unfold nx
          rw [if_pos c]
        refine q D xs H2 (s1.free nD) (s1.trans s2) w2 (by rw [e]; exact p2) ?_
        rw [e, List.length_map]
        exact Nat.le_trans (filt_len hN _) (by decide)
    · rw [show decide (V.str a.2 = V.str offS) = false from decide_eq_false fun z => c (by injection z)]
      refine iteF ?_
      obtain ⟨u, hfu, hu⟩ := fu_of ha hN.nd
      have hned : ned us a.1 = u.needs.filter fun x => decide (x ∈ us.map (·.1)) := by
        unfold ned
        rw [hfu]
      obtain ⟨kvs, hd, htb⟩ := hF.ex
      obtain ⟨v1, hv1, t1, q1, q2, q3, q4, g1, rfl, wq0, wq1, _⟩ := htb.get hN.nd (a.1, u) hu
      have hnl : u.needs.length ≤ 100 := (hF.few _ hu).1
      refine ⟨_, rfl, _, rfl, d, .ref t1, rfl, by rw [← hv1]; exact DGet.k (k := Sum.inr a.1) hd, t1, _, _, _, rfl, rfl, wq0, at1, q1, rfl, ⟨_, wq1⟩, fun D nD => ?_⟩
      refine lc_tup (xs := u.needs.map V.str) (fun i H' => Same H H' ∧ ∃ xs, H' D = some (.lst xs) ∧ PrH H' xs (((u.needs.take i).filter fun x => decide (x ∈ us.map (·.1))).map (·, onS))) ⟨same_upd nD, [], upd_same, .nil⟩ (fun i H' _ h => tup_same h.1 wq1) ?_ ?_
      · rintro i x H2 hi ⟨s2, xs, w2, p2⟩
        obtain ⟨o, ho, rfl⟩ := map_str_get hi
        refine ⟨rfl, _, rfl, _, rfl, d, _, rfl, DGet.k (k := Sum.inr o) (s2 _ _ hd), _, rfl, ?_⟩
        rw [take_filter_snoc _ ho, hN.val htb o]
        by_cases c2 : o ∈ us.map (·.1)
        · rw [decide_eq_true c2]
          refine iteT ⟨_, rfl, by show 2 ≤ sizeLine; decide, fun t2 n2 => ⟨xs, same_upd n2 _ _ w2, ?_, ?_⟩⟩
          · rw [p2.len, List.length_map]
            exact Nat.lt_of_le_of_lt (List.length_filter_le _ _) (Nat.lt_of_le_of_lt (List.length_take_le' ..) (small1000 (by omega)))
          · rw [if_pos rfl, List.map_append]
            exact pair_put s2 nD w2 p2 n2
        · rw [decide_eq_false c2]
          refine iteF ⟨s2, xs, w2, ?_⟩
          rw [if_neg Bool.false_ne_true, List.append_nil]
          exact p2
      rintro H2 ⟨s2, xs, w2, p2⟩
      rw [List.length_map, List.take_length, ← hned] at p2
      refine ⟨_, rfl, _, rfl, _, rfl, d, _, us, rfl, hF.same s2, hB, ha, fun l H3 nl s3 wl => ?_⟩
      refine ⟨l, rfl, ⟨_, SqL.of wl⟩, fun D2 nD2 => ?_⟩
      refine lc_list (xs := (br us a.1).map V.str) (fun i H' => Same H3 H' ∧ ∃ xs, H' D2 = some (.lst xs) ∧ PrH H' xs (((br us a.1).take i).map (·, offS))) ⟨same_upd nD2, [], upd_same, .nil⟩ (fun i H' _ h => SqL.of (h.1 _ _ wl)) ?_ ?_
      · rintro i x H4 hi ⟨s4, ys, w4, p4⟩
        obtain ⟨o, ho, rfl⟩ := map_str_get hi
        refine ⟨rfl, yes_of (iteT ⟨_, rfl, by show 2 ≤ sizeLine; decide, fun t2 n2 => ⟨ys, same_upd n2 _ _ w4, ?_, ?_⟩⟩)⟩
        · rw [p4.len, List.length_map]
          exact Nat.lt_of_le_of_lt (List.length_take_le' ..) (Nat.lt_of_le_of_lt (filt_len hN _) (small1000 (by decide)))
        · rw [take_snoc ho, List.map_append]
          exact pair_put s4 nD2 w4 p4 n2
      rintro H4 ⟨s4, ys, w4, p4⟩
      rw [List.length_map, List.take_length] at p4
      have s34 := s3.trans s4
      have l1 : (ned us a.1).length ≤ 100 := by
        rw [hned]
        exact Nat.le_trans (List.length_filter_le _ _) hnl
      have l2 : (br us a.1).length ≤ 16 := filt_len hN _
      refine ⟨D, D2, xs, ys, rfl, rfl, s34 _ _ w2, w4, by rw [p2.len, p4.len, List.length_map, List.length_map]; exact Nat.le_of_lt (small1000 (by omega)), fun D3 nD3 => ?_⟩
      generalize hE5 : upd H4 D3 _ = H5
      have w5 := new_at hE5
      have s5 := new_same hE5 nD3
      have e : nx us a = (ned us a.1).map (·, onS) ++ (br us a.1).map (·, offS) := by
        unfold nx
        rw [if_neg c]
      refine q D3 _ H5 ((s2.trans s34).free nD3) ((s2.trans s34).trans s5) w5 (by rw [e]; exact ((p2.same s34).same s5).app (p4.same s5)) ?_
      rw [e, List.length_append, List.length_map, List.length_map]
      omega

-- SPLIT
theorem wd_ok {us : List (Str × UF)} (hN : Nms us) {d : Str × Str} (h : WD us d) : Ok2 d := ⟨(hN.nm _ h.1).ok, h.2.elim (fun e => by rw [e]; exact ok_on) fun e => by rw [e]; exact ok_off⟩
theorem prH_last {H : Hp} {xs : List V} {ds : List (Str × Str)} (h : PrH H xs ds) (n : ds ≠ []) : ∃ t d xs' ds', xs = xs' ++ [.ref t] ∧ ds = ds' ++ [d] ∧ H t = some (.tup [.str d.1, .str d.2]) ∧ PrH H xs' ds' := by
  induction h with
  | nil => exact absurd rfl n
  | @cons t d xs ds a p ih =>
    by_cases c : ds = []
    · subst c
      cases p
      exact ⟨t, d, [], [], rfl, rfl, a, .nil⟩
    · obtain ⟨t2, d2, xs', ds', rfl, rfl, a2, p2⟩ := ih c
      exact ⟨t2, d2, .ref t :: xs', d :: ds', rfl, rfl, a2, .cons a p2⟩
theorem small4000 {n : Nat} (h : n ≤ 5000) : n < sizeLine := Nat.lt_of_le_of_lt h (by decide)

def sp_law_followed (K : PySem.W.Frag) : Sp := fun vs H Q _ => ∃ (d l : Addr) (us : List (Str × UF)) (xs : List V) (ds : List (Str × Str)), vs = [.ref d, .ref l] ∧ LF K H d us ∧ NBr us ∧ SqL K H l xs ∧ PrH H xs ds ∧ (∀ d ∈ ds, WD us d) ∧ ds.length ≤ 40 ∧
  ∀ D ys (es : List (Str × Str)) H', H D = none → Same H H' → H' D = some (.lst ys) → PrH H' ys (srtP es) → es.Nodup → (∀ d, d ∈ es ↔ Reach us ds d) → Q (.ref D) H'
theorem ok_law_followed (T : Txt K mg) : FnOk P w K mg base CX0 3 (He.fAd K ("_law_followed", none)) T.d_law_followed ["_law_facts_here", "_law_demands"] (sp_law_followed K) := by
  refine T.F_law_followed.ok sc_law_followed (fun vs H Q E h => ?_) (fun cdv A outer s H vs Q E hr h => ?_)
  · obtain ⟨d, l, us, xs, ds, rfl, _⟩ := h
    rfl
  · obtain ⟨d, l, us, xs, ds, rfl, hF, hB, hl, hP, hW, hdl, q⟩ := h
    refine ⟨_, PSs.nox (pss_cons (ps_set (i := 2) sc_law_followed.nd rfl (Or.inl rfl) pe_dnewT)
      (pss_cons (ps_set (i := 3) sc_law_followed.nd rfl (Or.inl rfl) (pe_callTy (T := "list")  call_list_of (by rfl) T.n_list (by decide +kernel) (pa_cons (pv 1) pa_nil)))
      (pss_cons (ps_while PassesOwn.never (pt_cmpR (op_neD hr.units) (pv 3) (pe_lst pa_nil) (nomark _))
      (pss_cons (ps_set (i := 4) sc_law_followed.nd rfl (Or.inl rfl) (pe_bm0 PySem.F.plainAttrs_list PySem.F.slot_list_pop PySem.F.type_list_pop mt_pop (pv 3)))
      (pss_one (ps_if (pt_cmp (pc_dnotin (hu_of hr) (pv 4) (pv 2)))
      (pss_cons (ps_dput (hu_of hr) (pv 2) (pv 4) pe_bl rfl)
      (pss_one (ps_expr (pe_bm PySem.F.plainAttrs_list PySem.F.slot_list_extend PySem.F.type_list_extend mt_extend (pv 3) (pa_cons (pe_call (ok_law_next T) (hr.mono (by decide)) (by rfl) T.m_law_next T.F_law_next.kp T.b_law_next .nil pass0 (pa_cons (pv 0) (pa_cons (pv 4) pa_nil))) pa_nil)))))
      pss_nil))))
      (pss_one (ps_ret (pe_callB (id := "sorted")  (UD.cr_sortDT rfl hr.units) (by rfl) T.n_sorted (by decide +kernel) (pa_cons (pv 2) pa_nil))))))), ?_⟩
    have hN := hF.nms
    refine fun D nD => ?_
    generalize hE1 : upd H D _ = H1
    have w1 := new_at hE1
    have s1 := new_same hE1 nD
    refine ⟨_, rfl, l, _, rfl, .inl (SqL.ext hl s1), fun Wa nW => ?_⟩
    generalize hE2 : upd H1 Wa _ = H2
    have w2 := new_at hE2
    have s2 := new_same hE2 nW
    have nWH : H Wa = none := s1.free nW
    have nDW : D ≠ Wa := ne_some w1 nW
    refine ⟨fun m σ H' => Same H H' ∧ ∃ (kvs : List (List Key × V)) (es : List (Str × Str)) (wxs : List V) (ws : List (Str × Str)) (y4 : Option V), H' D = some (.dT kvs) ∧ kvs.map (·.1) = es.map key2 ∧ es.Nodup ∧ (∀ d ∈ es, Reach us ds d) ∧ H' Wa = some (.lst wxs) ∧ PrH H' wxs ws ∧ (∀ a ∈ ws, Reach us ds a) ∧ (∀ d ∈ ds, d ∈ es ∨ d ∈ ws) ∧ (∀ a ∈ es, ∀ b ∈ ao us a, b ∈ es ∨ b ∈ ws) ∧ ws.length ≤ 120 * es.length + 40 ∧ m = 200 * (40 - es.length) + ws.length ∧
        σ = [some (.ref d), some (.ref l), some (.ref D), some (.ref Wa), y4],
      ⟨_, s1.trans s2, [], [], xs, ds, none, s2 _ _ w1, rfl, List.nodup_nil, (fun d hd => nomatch hd), w2, (hP.same s1).same s2, fun a ha => .base ha, fun d hd => .inr hd, (fun a ha => nomatch ha), by show ds.length ≤ 120 * 0 + 40; omega, rfl, rfl⟩, ?_⟩
    rintro m σ H3 ⟨s3, kvs, es, wxs, ws, y4, w3, hk, hn, hr, wW, pW, hws, hds, hcl, hwl, rfl, rfl⟩
    have few := wd_few hN hn fun d hd => reach_wd hW (hr d hd)
    -- waiting != []
    refine ⟨_, rfl, by show 0 ≤ sizeLine; decide, fun e ne => ?_⟩
    generalize hE4 : upd H3 e _ = H4
    have w4 := new_at hE4
    have s4 := new_same hE4 ne
    refine neD2 (ds := ws) (es := []) (SqL.of (s4 _ _ wW)) (pW.same s4).prs (SqL.of w4) .nil (fun a ha => wd_ok hN (reach_wd hW (hws a ha))) (fun a ha => nomatch ha) ⟨_, rfl, ?_⟩
    by_cases c : ws = []
    · subst c
      rw [decide_eq_true rfl]
      refine iteF ?_
      refine ⟨_, rfl, D, kvs, es, rfl, .inl (s4 _ _ w3), hk, by omega, fun R ys nR py => ?_⟩
      have s34 := s3.trans s4
      exact q R ys es _ (s34.free nR) (s34.trans (same_upd nR)) upd_same (py.same (same_upd nR)) hn fun d => ⟨hr d, fun h => closed_reach (fun d hd => (hds d hd).resolve_right (fun z => nomatch z)) (fun a ha b hb => (hcl a ha b hb).resolve_right (fun z => nomatch z)) h⟩
    rw [decide_eq_false c]
    refine iteT ⟨_, fun σ' H' h => h, ?_⟩
    obtain ⟨t, cl, wxs', ws', rfl, rfl, ht, pW'⟩ := prH_last pW c
    have hclr : Reach us ds cl := hws cl (List.mem_append_right _ (List.mem_singleton.mpr rfl))
    have hclw := reach_wd hW hclr
    rw [List.length_append] at hwl
    have hwl : ws'.length + 1 ≤ 120 * es.length + 40 := hwl
    have wW4 := s4 _ _ wW
    -- claim = waiting.pop()
    refine ⟨_, rfl, .inl ⟨rfl, _, SqL.of wW4⟩, Wa, _, .ref t, rfl, rfl, wW4, by rw [List.length_append, show wxs'.length + [V.ref t].length - 1 = wxs'.length from rfl, List.getElem?_append_right (Nat.le_refl _), Nat.sub_self]; rfl, ?_⟩
    rw [List.dropLast_concat]
    generalize hE5 : upd H4 Wa _ = H5
    have w5 := new_at hE5
    have m5 := mut_keep hE5
    have nt5 : NotTup H4 Wa := .lst wW4
    have s05 : Same H H5 := Same.own (s3.trans s4) m5 nWH
    have wD5 := m5 _ _ (s4 _ _ w3) nDW
    have ht5 := m5 _ _ (s4 _ _ ht) (nt5.ne (s4 _ _ ht))
    have pW5 := (pW'.same s4).keep m5 nt5
    -- if claim not in found
    refine ⟨_, rfl, _, rfl, D, _, rfl, DGet.t (k := key2 cl) wD5 ht5, _, rfl, ?_⟩
    rw [val2 hk]
    by_cases c2 : cl ∈ es
    · rw [decide_eq_true c2]
      refine iteF ⟨_, ?_, s05, kvs, es, wxs', ws', _, wD5, hk, hn, hr, w5, pW5, fun a ha => hws a (List.mem_append_left _ ha), fun d hd => ?_, fun a ha b hb => ?_, by omega, rfl, rfl⟩
      · rw [List.length_append]
        show _ < 200 * (40 - es.length) + (ws'.length + 1)
        omega
      · rcases hds d hd with z | z
        · exact .inl z
        · rcases List.mem_append.mp z with z | z
          · exact .inr z
          · rw [List.mem_singleton.mp z]
            exact .inl c2
      · rcases hcl a ha b hb with z | z
        · exact .inl z
        · rcases List.mem_append.mp z with z | z
          · exact .inr z
          · rw [List.mem_singleton.mp z]
            exact .inl c2
    rw [decide_eq_false c2]
    refine iteT ?_
    refine ⟨_, rfl, _, rfl, D, _, rfl, DPut.t (k := key2 cl) wD5 ht5 (by rw [len2 hk]; exact small1000 (by omega)), ?_⟩
    generalize hE6 : upd H5 D _ = H6
    have w6 := new_at hE6
    have m6 := mut_keep hE6
    have nt6 : NotTup H5 D := UD.NotTup.dT wD5
    have s06 : Same H H6 := Same.own s05 m6 nD
    have wW6 := m6 _ _ w5 nDW.symm
    have ht6 := m6 _ _ ht5 (nt6.ne ht5)
    -- waiting.extend(next(facts, claim))
    refine ⟨_, rfl, .inl ⟨rfl, _, SqL.of wW6⟩, _, rfl, _, rfl, d, t, us, cl, rfl, hF.same s06, hB, SqT.of ht6, hclw.1, fun L lxs H7 nL s7 wL pL hnl => ?_⟩
    have nWL : Wa ≠ L := ne_some wW6 nL
    have wW7 := s7 _ _ wW6
    refine ⟨Wa, L, _, _, rfl, rfl, wW7, wL, by rw [pW5.len, pL.len]; exact Nat.le_of_lt (small4000 (by omega)), ?_⟩
    generalize hE8 : upd H7 Wa _ = H8
    have w8 := new_at hE8
    have m8 := mut_keep hE8
    have nt8 : NotTup H7 Wa := .lst wW7
    have hn2 := snoc_nodup hn c2
    have few2 := wd_few hN hn2 fun d hd => (List.mem_append.mp hd).elim (fun z => reach_wd hW (hr d z)) fun z => by rw [List.mem_singleton.mp z]; exact hclw
    rw [List.length_append] at few2
    have few2 : es.length + 1 ≤ 32 := few2
    refine ⟨_, ?_, Same.own (s06.trans s7) m8 nWH, _, es ++ [cl], _, ws' ++ nx us cl, _, m8 _ _ (s7 _ _ w6) nDW, put2_new hk c2 _, hn2, fun d hd => ?_, w8, (((pW5.keep m6 nt6).same s7).keep m8 nt8).app (pL.keep m8 nt8), fun a ha => ?_, fun d hd => ?_, fun a ha b hb => ?_, ?_, rfl, rfl⟩
    · rw [List.length_append, List.length_append, List.length_append]
      show 200 * (40 - (es.length + 1)) + (ws'.length + (nx us cl).length) < 200 * (40 - es.length) + (ws'.length + 1)
      omega
    · rcases List.mem_append.mp hd with z | z
      · exact hr d z
      · rw [List.mem_singleton.mp z]
        exact hclr
    · rcases List.mem_append.mp ha with z | z
      · exact hws a (List.mem_append_left _ z)
      · exact .step hclr (nx_mem.mp z)
    · rcases hds d hd with z | z
      · exact .inl (List.mem_append_left _ z)
      · rcases List.mem_append.mp z with z | z
        · exact .inr (List.mem_append_left _ z)
        · exact .inl (List.mem_append_right _ z)
    · rcases List.mem_append.mp ha with z | z
      · rcases hcl a z b hb with y | y
        · exact .inl (List.mem_append_left _ y)
        · rcases List.mem_append.mp y with y | y
          · exact .inr (List.mem_append_left _ y)
          · exact .inl (List.mem_append_right _ y)
      · rw [List.mem_singleton.mp z] at hb
        exact .inr (List.mem_append_right _ (nx_mem.mpr hb))
    · rw [List.length_append, List.length_append]
      show ws'.length + (nx us cl).length ≤ 120 * (es.length + 1) + 40
      omega

-- SPLIT
/-! ### what lacks -/
def lackB (us : List (Str × UF)) (e : Str × Str) : Bool := decide (e.2 = onS) && (match fu us e.1 with
  | some u => u.needs.any fun x => !decide (x ∈ us.map (·.1))
  | none => false)
theorem inV_blF (bs : List Bool) : inV (.bl false) (bs.map V.bl) = bs.any (!·) := by
  unfold inV
  rw [List.any_map]
  congr 1
  funext b
  cases b <;> rfl
def sp_law_lacks (K : PySem.W.Frag) : Sp := fun vs H Q _ => ∃ (d l : Addr) (us : List (Str × UF)) (xs : List V) (ds : List (Str × Str)), vs = [.ref d, .ref l] ∧ LF K H d us ∧ SqL K H l xs ∧ PrH H xs ds ∧ (∀ d ∈ ds, WD us d) ∧ ds.length ≤ 100 ∧
  ∀ H', Same H H' → Q (.bl (ds.any (lackB us))) H'
theorem ok_law_lacks (T : Txt K mg) : FnOk P w K mg base CX0 1 (He.fAd K ("_law_lacks", none)) T.d_law_lacks ["_law_facts_here", "_law_demands"] (sp_law_lacks K) := by
  refine T.F_law_lacks.ok sc_law_lacks (fun vs H Q E h => ?_) (fun cdv A outer s H vs Q E hr h => ?_)
  · obtain ⟨d, l, us, xs, ds, rfl, _⟩ := h
    rfl
  · obtain ⟨d, l, us, xs, ds, rfl, hF, hl, hP, hW, hdl, q⟩ := h
    refine ⟨_, PSs.nox (pss_one (ps_ret (pe_cmpR op_in_seq pe_bl (pe_lc (own := [("_law_word", 2), ("_law_way", 3)]) (g := gTup K 2 (gCons (gName 2) (gCons (gName 3) gNil))) (by rfl) sc_law_lacks.nd (pi_list (pv 1)) (blkOk_by (own := [("_law_word", 2), ("_law_way", 3)]) (N := N_law_lacks) (sc := defScope s_law_lacks) (by decide +kernel)) (fun _ _ _ _ _ => by exact (pg_tup rfl (pgs_cons (pg_name (i := 2) sc_law_lacks.nd rfl (Or.inl rfl)) (pgs_cons (pg_name (i := 3) sc_law_lacks.nd rfl (Or.inl rfl)) pgs_nil)))) (fun _ _ _ _ _ => pts_nil) (fun _ _ _ _ _ => (pe_mid (pe_and (pe_cmpR op_eq (pv 3) pe_str (nomark _)) (pe_one (pe_cmpR (r := rIn K false) op_in_seq pe_bl (pe_lc (own := [("_law_one", 4)]) (by rfl) sc_law_lacks.nd (UP.pi_tupK (K := K) (by rfl) (pe_ix (r := rIxT K) ix_tup (pe_dget (hu_of hr) (pv 0) (pv 2) (fun _ _ => rfl)) pe_int (fun _ _ => rfl))) (blkOk_by (own := [("_law_one", 4)]) (N := N_law_lacks) (sc := _) (by rfl)) (fun _ _ _ _ _ => (pg_name (i := 4) sc_law_lacks.nd rfl (Or.inl rfl))) (fun _ _ _ _ _ => pts_nil) (fun _ _ _ _ _ => (pe_cmp (pc_din (hu_of hr) (pv 4) (pv 0))))) (by rfl))))))) (by rfl)))), ?_⟩
    have hN := hF.nms
    obtain ⟨kvs, hd, htb⟩ := hF.ex
    refine ⟨_, rfl, l, rfl, ⟨_, hl⟩, fun D nD => ?_⟩
    refine lc_list (xs := xs) (fun i H' => Same H H' ∧ H' D = some (.lst (((ds.take i).map (lackB us)).map V.bl))) ⟨same_upd nD, upd_same⟩ (fun i H' _ h => SqL.ext hl h.1) ?_ ?_
    · rintro i x H1 hi ⟨s1, w1⟩
      obtain ⟨t, e, rfl, he, ht⟩ := hP.get hi
      obtain ⟨u, hfu, hu⟩ := fu_of (hW e (List.mem_of_getElem? he)).1 hN.nd
      have hlb : lackB us e = (decide (e.2 = onS) && u.needs.any fun x => !decide (x ∈ us.map (·.1))) := by
        unfold lackB
        rw [hfu]
      refine ⟨t, _, rfl, SqT.of (s1 _ _ ht), rfl, _, _, rfl, _, _, rfl, rfl, rfl, yes_of (iteT ?_)⟩
      refine ⟨fun v H' => Same H1 H' ∧ v = .bl (lackB us e), ?_, ?_⟩
      · refine ⟨_, rfl, rfl, _, rfl, ?_⟩
        show if decide (V.str e.2 = V.str onS) = true then _ else _
        by_cases c : e.2 = onS
        · rw [show decide (V.str e.2 = V.str onS) = true from decide_eq_true (by rw [c])]
          rw [decide_eq_true c, Bool.true_and] at hlb
          obtain ⟨v1, hv1, t1, q1, q2, q3, q4, g1, rfl, wq0, wq1, _⟩ := htb.get hN.nd (e.1, u) hu
          have hnl : u.needs.length ≤ 100 := (hF.few _ hu).1
          have hd1 := s1 _ _ hd
          refine iteT ⟨_, rfl, _, rfl, d, .ref t1, rfl, by rw [← hv1]; exact DGet.k (k := Sum.inr e.1) hd1, t1, _, _, _, rfl, rfl, tup_same s1 wq0, at1, q1, rfl, ⟨_, tup_same s1 wq1⟩, fun D2 nD2 => ?_⟩
          refine lc_tup (xs := u.needs.map V.str) (fun j H' => Same H1 H' ∧ H' D2 = some (.lst (((u.needs.take j).map fun x => decide (x ∈ us.map (·.1))).map V.bl))) ⟨same_upd nD2, upd_same⟩ (fun j H' _ h => tup_same (s1.trans h.1) wq1) ?_ ?_
          · rintro j x H2 hj ⟨s2, w2⟩
            obtain ⟨o, ho, rfl⟩ := map_str_get hj
            refine ⟨rfl, yes_of (iteT ⟨_, rfl, _, rfl, d, _, rfl, DGet.k (k := Sum.inr o) (s2 _ _ hd1), ?_⟩)⟩
            refine ⟨_, w2, ?_, Same.own (q := D2) s2 (mut_keep rfl) nD2, ?_⟩
            · rw [List.length_map, List.length_map]
              exact Nat.lt_of_le_of_lt (List.length_take_le' ..) (small1000 (by omega))
            · rw [upd_same, take_snoc ho, List.map_append, List.map_append, hN.val htb o]
              rfl
          rintro H2 ⟨s2, w2⟩
          rw [List.length_map, List.take_length] at w2
          refine ⟨D2, _, rfl, .inl (SqL.of w2), rfl, bls_flat _, s2, ?_⟩
          show V.bl (inV (.bl false) _) = _
          rw [inV_blF, hlb, List.any_map]
          rfl
        · rw [show decide (V.str e.2 = V.str onS) = false from decide_eq_false fun z => c (by injection z)]
          rw [decide_eq_false c] at hlb
          exact iteF ⟨Same.refl _, by rw [hlb]; rfl⟩
      rintro v H2 ⟨s2, rfl⟩
      refine ⟨_, s2 _ _ w1, ?_, Same.own (q := D) (s1.trans s2) (mut_keep rfl) nD, ?_⟩
      · rw [List.length_map, List.length_map]
        exact Nat.lt_of_le_of_lt (List.length_take_le' ..) (small1000 (by omega))
      · rw [upd_same, take_snoc he, List.map_append, List.map_append]
        rfl
    rintro H1 ⟨s1, w1⟩
    rw [hP.len, List.take_length] at w1
    refine ⟨D, _, rfl, .inl (SqL.of w1), rfl, bls_flat _, ?_⟩
    show Q (.bl (inV (.bl true) _)) H1
    rw [inV_bl, List.any_map]
    exact q H1 s1

-- SPLIT
/-! ### clashes, ways -/
def waysL (ds : List (Str × Str)) (y : Str) : List Str := (ds.filter fun d => decide (d.2 = y)).map (·.1)
theorem waysL_mem {ds : List (Str × Str)} {x y : Str} : x ∈ waysL ds y ↔ (x, y) ∈ ds := by
  unfold waysL
  rw [List.mem_map]
  refine ⟨fun ⟨d, hd, e⟩ => ?_, fun h => ⟨(x, y), List.mem_filter.mpr ⟨h, decide_eq_true rfl⟩, rfl⟩⟩
  obtain ⟨h1, h2⟩ := List.mem_filter.mp hd
  have h2 : d.2 = y := of_decide_eq_true h2
  rw [← e, ← h2]
  exact h1
theorem waysL_nodup {ds : List (Str × Str)} {y : Str} (h : ds.Nodup) : (waysL ds y).Nodup := by
  unfold waysL
  refine List.pairwise_map.mpr (List.Pairwise.imp_of_mem (fun {a b} ha hb ne e => ne ?_) (h.filter _))
  have h1 : a.2 = y := of_decide_eq_true (List.mem_filter.mp ha).2
  have h2 : b.2 = y := of_decide_eq_true (List.mem_filter.mp hb).2
  exact Prod.ext e (h1.trans h2.symm)
def sp_law_ways (K : PySem.W.Frag) : Sp := fun vs H Q _ => ∃ (l : Addr) (y : Str) (xs : List V) (ds : List (Str × Str)), vs = [.ref l, .str y] ∧ SqL K H l xs ∧ PrH H xs ds ∧ ds.length ≤ 100 ∧
  ∀ D H', H D = none → Same H H' → H' D = some (.lst ((waysL ds y).map V.str)) → Q (.ref D) H'
theorem ok_law_ways (T : Txt K mg) : FnOk P w K mg base CX0 1 (He.fAd K ("_law_ways", none)) T.d_law_ways ["_law_demands", "_law_way"] (sp_law_ways K) := by
  refine T.F_law_ways.ok sc_law_ways (fun vs H Q E h => ?_) (fun cdv A outer s H vs Q E hr h => ?_)
  · obtain ⟨l, y, xs, ds, rfl, _⟩ := h
    rfl
  · obtain ⟨l, y, xs, ds, rfl, hl, hP, hdl, q⟩ := h
    refine ⟨_, PSs.nox (pss_one (ps_ret (pe_lc (own := [("_law_word", 2), ("_law_other", 3)]) (g := gTup K 2 (gCons (gName 2) (gCons (gName 3) gNil))) (by rfl) sc_law_ways.nd (pi_list (pv 0)) (blkOk_by (own := [("_law_word", 2), ("_law_other", 3)]) (N := N_law_ways) (sc := defScope s_law_ways) (by decide +kernel)) (fun _ _ _ _ _ => by exact (pg_tup rfl (pgs_cons (pg_name (i := 2) sc_law_ways.nd rfl (Or.inl rfl)) (pgs_cons (pg_name (i := 3) sc_law_ways.nd rfl (Or.inl rfl)) pgs_nil)))) (fun _ _ _ _ _ => (pts_one (pt_cmpR op_eq (pv 3) (pv 1) (nomark _)))) (fun _ _ _ _ _ => (pv 2))))), ?_⟩
    refine ⟨_, rfl, l, rfl, ⟨_, hl⟩, fun D nD => lc_list (K := K) (a := l) (xs := xs) (fun i H' => Same H H' ∧ H' D = some (.lst ((waysL (ds.take i) y).map V.str))) ⟨same_upd nD, upd_same⟩ (fun i H' _ h => SqL.ext hl h.1) ?_ ?_⟩
    · rintro i x H1 hi ⟨s1, w1⟩
      obtain ⟨t, d, rfl, he, ht⟩ := hP.get hi
      refine ⟨t, _, rfl, SqT.of (s1 _ _ ht), rfl, _, _, rfl, _, _, rfl, rfl, rfl, ?_⟩
      refine ⟨_, rfl, _, rfl, rfl, _, rfl, ?_⟩
      rw [take_snoc he]
      unfold waysL at w1 ⊢
      rw [List.filter_append, List.map_append, List.map_append]
      rw [UW.dec_str]
      by_cases c : d.2 = y
      · rw [decide_eq_true c, List.filter_cons_of_pos (p := fun (d : Str × Str) => decide (d.2 = y)) (decide_eq_true c)]
        refine iteT ⟨_, rfl, _, w1, ?_, Same.own (q := D) (H1 := H1) s1 (mut_keep rfl) nD, by rw [upd_same]; rfl⟩
        rw [List.length_map, List.length_map]
        refine Nat.lt_of_le_of_lt (List.length_filter_le _ _) (Nat.lt_of_le_of_lt (List.length_take_le' ..) (small1000 (by omega)))
      · rw [decide_eq_false c, List.filter_cons_of_neg (p := fun (d : Str × Str) => decide (d.2 = y)) (by rw [decide_eq_false c]; exact Bool.false_ne_true), List.filter_nil, List.map_nil, List.map_nil, List.append_nil]
        exact iteF ⟨s1, w1⟩
    · rintro H1 ⟨s1, w1⟩
      rw [hP.len, List.take_length] at w1
      exact q D H1 nD s1 w1
/-- min(xs), xs texts, one at least: one of them -/
def rMinT (K : PySem.W.Frag) : List V → Hp → VK → Prop := fun vs H Q => ∃ (a : Addr) (y : Str) (ys : List Str), vs = [.ref a] ∧ SqL K H a ((y :: ys).map V.str) ∧ ∀ z, Q (.str z) H
theorem cr_minT {X : Cx} (hc : X.calm = true) (hu : X.A.units + 64 < cLine) : CallR X (.builtin "min") (rMinT X.K) := fun pins s σ H vs us Q I r h => by
  obtain ⟨a, y, ys, rfl, sq, q⟩ := h
  obtain ⟨its, rv, li, _⟩ := I.list sq
  cases Vals.ref1 r
  obtain ⟨as, rd⟩ := Dp.readsAll I ((y :: ys).map PyData.str) _ _ (dpAll_strs (K := X.K) (H := H) (y :: ys)) rv
  have all : PySem.W.HoldAll s.heap its.toArray.toList (y :: ys) := ⟨as, rd⟩
  refine PySem.W.min_list_datum (I.ok.hd hc) li.isList all (by show X.A.units + 1 + _ < cLine; have : PySem.W.Datum.depth Str = 0 := rfl; omega) fun i v h' tk at_ _ old => ?_
  obtain ⟨x, hx, rx⟩ := vals_get rv (show its[i]? = some v by rw [← List.getElem?_toArray]; exact at_)
  obtain ⟨z, _, rfl⟩ := map_str_get hx
  obtain ⟨t, rfl⟩ := rx
  exact ⟨.str z, H, I.kept old, ⟨t, rfl⟩, q z⟩
def Clash (ds : List (Str × Str)) : Prop := ∃ x, (x, onS) ∈ ds ∧ (x, offS) ∈ ds
def sp_law_clash (K : PySem.W.Frag) : Sp := fun vs H Q _ => ∃ (l : Addr) (xs : List V) (ds : List (Str × Str)), vs = [.ref l] ∧ SqL K H l xs ∧ PrH H xs ds ∧ (∀ d ∈ ds, Ok2 d) ∧ ds.length ≤ 60 ∧
  ∀ v H', Same H H' → ((v = .non ∧ ¬ Clash ds) ∨ ∃ x, v = .str x ∧ Clash ds) → Q v H'
theorem ok_law_clash (T : Txt K mg) : FnOk P w K mg base CX0 1 (He.fAd K ("_law_clash", none)) T.d_law_clash ["_law_demands"] (sp_law_clash K) := by
  refine T.F_law_clash.ok sc_law_clash (fun vs H Q E h => ?_) (fun cdv A outer s H vs Q E hr h => ?_)
  · obtain ⟨l, xs, ds, rfl, _⟩ := h
    rfl
  · obtain ⟨l, xs, ds, rfl, hl, hP, hok, hdl, q⟩ := h
    refine ⟨_, PSs.nox (pss_cons (ps_setLc (i := 1) (own := [("_law_word", 2), ("_law_way", 3)]) (g := gTup K 2 (gCons (gName 2) (gCons (gName 3) gNil))) (by rfl) sc_law_clash.nd rfl rfl (sw_true rfl rfl rfl (by decide +kernel)) (pi_list (pv 0)) (blkOk_by (own := [("_law_word", 2), ("_law_way", 3)]) (N := N_law_clash) (sc := defScope s_law_clash) (by decide +kernel)) (fun _ _ _ _ _ => by exact (pg_tup rfl (pgs_cons (pg_name (i := 2) sc_law_clash.nd rfl (Or.inl rfl)) (pgs_cons (pg_name (i := 3) sc_law_clash.nd rfl (Or.inl rfl)) pgs_nil)))) (fun _ _ _ _ _ => (pts_one (PW.pt (pw_and (pt_cmpR op_eq (pv 3) pe_str (nomark _)) (pw_and1 (pt_cmpR (r := rInD K) (op_inD (UP.un65 hr)) (pe_tup (pa_cons (pv 2) (pa_cons pe_str pa_nil))) (pv 0) (by rfl))))))) (fun _ _ _ _ _ => (pv 2)))
      (pss_one (ps_ret (pe_mid (pe_ifExp (pt_cmpR (op_neD hr.units) (pv 1) (pe_lst pa_nil) (nomark _)) (pe_callB (id := "min")  (cr_minT rfl hr.units) (by rfl) T.n_min (by decide +kernel) (pa_cons (pv 1) pa_nil)) pe_non))))), ?_⟩
    let bf : Str × Str → Bool := fun d => decide (d.2 = onS ∧ (d.1, offS) ∈ ds)
    refine ⟨_, rfl, l, rfl, ⟨_, hl⟩, fun D nD => lc_list (K := K) (a := l) (xs := xs) (fun i H' => Same H H' ∧ H' D = some (.lst ((((ds.take i).filter bf).map (·.1)).map V.str))) ⟨same_upd nD, upd_same⟩ (fun i H' _ h => SqL.ext hl h.1) ?_ ?_⟩
    · rintro i x H1 hi ⟨s1, w1⟩
      obtain ⟨t, d, rfl, he, ht⟩ := hP.get hi
      have hdm : d ∈ ds := List.mem_of_getElem? he
      refine ⟨t, _, rfl, SqT.of (s1 _ _ ht), rfl, _, _, rfl, _, _, rfl, rfl, rfl, ?_⟩
      rw [take_snoc he, List.filter_append, List.map_append, List.map_append]
      have hlen : (List.map V.str (List.map (·.1) ((ds.take i).filter bf))).length < sizeLine := by
        rw [List.length_map, List.length_map]
        exact Nat.lt_of_le_of_lt (List.length_filter_le _ _) (Nat.lt_of_le_of_lt (List.length_take_le' ..) (small1000 (by omega)))
      have stay : ∀ {H2 : Hp}, Same H1 H2 → bf d = false → Same H H2 ∧ H2 D = some (.lst (((ds.take i).filter bf).map (·.1) |>.map V.str |> (· ++ (([d].filter bf).map (·.1)).map V.str))) := fun {H2} e c => by
        refine ⟨s1.trans e, ?_⟩
        rw [List.filter_cons_of_neg (by rw [c]; exact Bool.false_ne_true), List.filter_nil, List.map_nil, List.map_nil]
        show H2 D = some (.lst (_ ++ []))
        rw [List.append_nil]
        exact e _ _ w1
      refine ⟨_, rfl, rfl, _, rfl, ?_⟩
      rw [UW.dec_str]
      by_cases c : d.2 = onS
      · rw [decide_eq_true c]
        refine iteT ⟨_, rfl, by show 2 ≤ sizeLine; decide, fun t2 n2 => ⟨_, rfl, ?_⟩⟩
        generalize hE2 : upd H1 t2 _ = H2
        have w2 := new_at hE2
        have e2 := new_same hE2 n2
        have s2 := s1.trans e2
        refine inD2 (d := (d.1, offS)) (SqT.of w2) (SqL.ext hl s2) (hP.same s2).prs ⟨(hok d hdm).1, ok_off⟩ hok ⟨_, rfl, ?_⟩
        by_cases c2 : (d.1, offS) ∈ ds
        · rw [decide_eq_true c2]
          have hb : bf d = true := decide_eq_true ⟨c, c2⟩
          refine iteT ⟨_, rfl, _, e2 _ _ w1, hlen, Same.own (q := D) (H1 := H2) s2 (mut_keep rfl) nD, ?_⟩
          rw [upd_same, List.filter_cons_of_pos hb]
          rfl
        · rw [decide_eq_false c2]
          exact iteF (stay e2 (decide_eq_false fun z => c2 z.2))
      · rw [decide_eq_false c]
        exact iteF (stay (Same.refl _) (decide_eq_false fun z => c z.1))
    rintro H1 ⟨s1, w1⟩
    rw [hP.len, List.take_length] at w1
    obtain ⟨both, hboth⟩ : ∃ both, (ds.filter bf).map (·.1) = both := ⟨_, rfl⟩
    rw [hboth] at w1
    have hbm : ∀ x ∈ both, (x, onS) ∈ ds ∧ (x, offS) ∈ ds := fun x hx => by
      rw [← hboth] at hx
      obtain ⟨d, hd, rfl⟩ := List.mem_map.mp hx
      obtain ⟨h1, h2⟩ := List.mem_filter.mp hd
      obtain ⟨h3, h4⟩ := of_decide_eq_true h2
      exact ⟨by rw [← h3]; exact h1, h4⟩
    have hcl : both = [] → ¬ Clash ds := fun e ⟨x, h1, h2⟩ => by
      have : x ∈ both := by
        rw [← hboth]
        exact List.mem_map.mpr ⟨(x, onS), List.mem_filter.mpr ⟨h1, decide_eq_true ⟨rfl, h2⟩⟩, rfl⟩
      rw [e] at this
      cases this
    refine ⟨fun v H' => Same H H' ∧ ((v = .non ∧ ¬ Clash ds) ∨ ∃ x, v = .str x ∧ Clash ds), ?_, fun v H' hv => q v H' hv.1 hv.2⟩
    refine ⟨_, rfl, by show 0 ≤ sizeLine; decide, fun e ne => ?_⟩
    generalize hE2 : upd H1 e _ = H2
    have w2 : H2 e = some (.lst (([] : List Str).map V.str)) := new_at hE2
    have s2 := new_same hE2 ne
    refine neD_strs (SqL.of (s2 _ _ w1)) (SqL.of w2) (fun x hx => (hok _ (hbm x hx).1).1) (fun x hx => nomatch hx) ⟨_, rfl, ?_⟩
    cases both with
    | nil =>
      rw [decide_eq_true rfl]
      exact iteF ⟨s1.trans s2, .inl ⟨rfl, hcl rfl⟩⟩
    | cons y ys =>
      rw [decide_eq_false (List.cons_ne_nil y ys)]
      refine iteT ⟨_, rfl, D, y, ys, rfl, SqL.of (s2 _ _ w1), fun z => ⟨s1.trans s2, .inr ⟨z, rfl, y, hbm y (List.mem_cons_self ..)⟩⟩⟩

-- SPLIT
/-! ### a stand that is drawn fits -/
section
variable {us : List (Str × UF)}
theorem br_mem {u b : Str} : b ∈ br us u ↔ b ∈ us.map (·.1) ∧ barB us u b = true := by
  unfold br
  rw [List.mem_filter, srt_mem]
theorem barB_sym (u b : Str) : barB us u b = barB us b u := by
  unfold barB
  cases fu us u <;> cases fu us b <;> simp only []
  rw [Bool.or_comm]
theorem br_sym {u b : Str} (hu : u ∈ us.map (·.1)) (h : b ∈ br us u) : u ∈ br us b := br_mem.mpr ⟨hu, by rw [barB_sym]; exact (br_mem.mp h).2⟩
theorem nd_mem {v x : Str} : x ∈ nd us v ↔ x ∈ us.map (·.1) ∧ ∃ u, fu us x = some u ∧ v ∈ u.needs := by
  unfold nd
  rw [List.mem_filter, srt_mem]
  refine and_congr_right fun _ => ?_
  unfold needB
  cases e : fu us x with
  | none => exact ⟨fun z => Bool.noConfusion z, fun ⟨u, h, _⟩ => nomatch h⟩
  | some u =>
    refine ⟨fun z => ⟨u, rfl, of_decide_eq_true z⟩, fun ⟨u', h, g⟩ => ?_⟩
    cases h
    exact decide_eq_true g
theorem off_ne : offS ≠ onS := by decide +kernel
theorem ao_on_need {u n : Str} {x : UF} (hx : fu us u = some x) (hn : n ∈ x.needs) (hm : n ∈ us.map (·.1)) : (n, onS) ∈ ao us (u, onS) := by
  unfold ao
  rw [if_neg (fun e => off_ne (show onS = offS from e).symm), srtP_mem]
  refine List.mem_append_left _ (List.mem_map.mpr ⟨n, ?_, rfl⟩)
  unfold ned
  rw [show fu us (u, onS).1 = some x from hx]
  exact List.mem_filter.mpr ⟨hn, decide_eq_true hm⟩
theorem ao_on_bar {u b : Str} (h : b ∈ br us u) : (b, offS) ∈ ao us (u, onS) := by
  unfold ao
  rw [if_neg (fun e => off_ne (show onS = offS from e).symm), srtP_mem]
  exact List.mem_append_right _ (List.mem_map.mpr ⟨b, h, rfl⟩)
theorem ao_off {v x : Str} (h : x ∈ nd us v) : (x, offS) ∈ ao us (v, offS) := by
  unfold ao
  rw [if_pos rfl]
  exact List.mem_map.mpr ⟨x, h, rfl⟩
/-- what follows, as it is told -/
structure Cl (us : List (Str × UF)) (es : List (Str × Str)) : Prop where
  wd : ∀ e ∈ es, WD us e
  cl : ∀ a ∈ es, ∀ b ∈ ao us a, b ∈ es
theorem Cl.up {es : List (Str × Str)} (h : Cl us es) {v x : Str} {u : UF} (hv : (v, offS) ∈ es) (hx : x ∈ us.map (·.1)) (hu : fu us x = some u) (hn : v ∈ u.needs) : (x, offS) ∈ es := h.cl _ hv _ (ao_off (nd_mem.mpr ⟨hx, u, hu, hn⟩))
open Classical in
theorem fits_on {h s o l more risen : List Str} {es : List (Str × Str)} (F : Fits us ⟨h, s, o, l⟩) (C : Cl us es) (hno : ∀ x, (x, onS) ∈ es → ∀ u, fu us x = some u → ∀ n ∈ u.needs, n ∈ us.map (·.1)) (hcl : ¬ Clash es)
    (hm : ∀ x, x ∈ more ↔ x ∈ us.map (·.1) ∧ (x ∈ h ∨ (x, onS) ∈ es) ∧ (x, offS) ∉ es) (hmn : more.Nodup) (hr : ∀ x ∈ risen, x ∈ more) (hk : ¬ Knotted (wt us) (more.filter fun x => decide (x ∉ risen))) :
    Fits us ⟨more, risen, o.filter fun x => decide ((x, onS) ∉ es ∧ (x, offS) ∉ es), l.filter fun x => decide ((x, onS) ∉ es ∧ (x, offS) ∉ es)⟩ := by
  obtain ⟨f1, f2, f3, f4, f5⟩ := F
  have hin : ∀ x, x ∈ h ++ o ++ l → x ∈ us.map (·.1) := fun x hx => f1 x (by
    simp only [List.mem_append] at hx ⊢
    rcases hx with (hx | hx) | hx
    · exact .inl (.inl (.inl hx))
    · exact .inl (.inr hx)
    · exact .inr hx)
  have fo : ∀ {x : Str} {ys : List Str}, x ∈ ys.filter (fun x => decide ((x, onS) ∉ es ∧ (x, offS) ∉ es)) ↔ x ∈ ys ∧ (x, onS) ∉ es ∧ (x, offS) ∉ es := fun {x ys} => by
    rw [List.mem_filter]
    exact and_congr_right fun _ => ⟨fun z => of_decide_eq_true z, fun z => decide_eq_true z⟩
  refine ⟨fun x hx => ?_, ?_, fun x hx u hu n hn => ?_, fun x hx b hb hbm => ?_, hk⟩
  · simp only [List.mem_append] at hx
    rcases hx with ((hx | hx) | hx) | hx
    · exact ((hm x).mp hx).1
    · exact ((hm x).mp (hr x hx)).1
    · exact hin x (List.mem_append_left _ (List.mem_append_right _ (fo.mp hx).1))
    · exact hin x (List.mem_append_right _ (fo.mp hx).1)
  · obtain ⟨n1, n2, n3⟩ := List.nodup_append.mp f2
    obtain ⟨n4, n5, n6⟩ := List.nodup_append.mp n1
    refine List.nodup_append.mpr ⟨List.nodup_append.mpr ⟨hmn, n5.filter _, fun x hx y hy e => ?_⟩, n2.filter _, fun x hx y hy e => ?_⟩
    · subst e
      obtain ⟨hy1, hy2, _⟩ := fo.mp hy
      rcases ((hm x).mp hx).2.1 with z | z
      · exact n6 x z x hy1 rfl
      · exact hy2 z
    · subst e
      obtain ⟨hy1, hy2, _⟩ := fo.mp hy
      rcases List.mem_append.mp hx with z | z
      · rcases ((hm x).mp z).2.1 with z | z
        · exact n3 x (List.mem_append_left _ z) x hy1 rfl
        · exact hy2 z
      · exact n3 x (List.mem_append_right _ (fo.mp z).1) x hy1 rfl
  · have old : x ∈ h ++ o → (x, offS) ∉ es → n ∈ more := fun z z2 => by
      have hnh : n ∈ h := f3 x z u hu n hn
      refine (hm n).mpr ⟨hin n (List.mem_append_left _ (List.mem_append_left _ hnh)), .inl hnh, fun z3 => z2 ?_⟩
      exact C.up z3 (hin x (List.mem_append_left _ z)) hu hn
    rcases List.mem_append.mp hx with z | z
    · obtain ⟨z1, z2, z3⟩ := (hm x).mp z
      rcases z2 with z2 | z2
      · exact old (List.mem_append_left _ z2) z3
      · have hnn := hno x z2 u hu n hn
        have hne : (n, onS) ∈ es := C.cl _ z2 _ (ao_on_need hu hn hnn)
        exact (hm n).mpr ⟨hnn, .inr hne, fun z4 => hcl ⟨n, hne, z4⟩⟩
    · exact old (List.mem_append_right _ (fo.mp z).1) (fo.mp z).2.2
  · have hbn := (br_mem.mp hb).1
    -- b is neither demanded off nor on
    have boff : (b, offS) ∉ es := fun z => by
      simp only [List.mem_append] at hbm
      rcases hbm with (y | y) | y
      · exact ((hm b).mp y).2.2 z
      · exact (fo.mp y).2.2 z
      · exact (fo.mp y).2.2 z
    have xold : x ∈ h ++ o ∧ (x, offS) ∉ es := by
      rcases List.mem_append.mp hx with z | z
      · obtain ⟨_, z2, z3⟩ := (hm x).mp z
        rcases z2 with z2 | z2
        · exact ⟨List.mem_append_left _ z2, z3⟩
        · exact absurd (C.cl _ z2 _ (ao_on_bar hb)) boff
      · exact ⟨List.mem_append_right _ (fo.mp z).1, (fo.mp z).2.2⟩
    have bon : (b, onS) ∉ es := fun z => xold.2 (C.cl _ z _ (ao_on_bar (br_sym (hin x (List.mem_append_left _ xold.1)) hb)))
    refine f4 x xold.1 b hb ?_
    simp only [List.mem_append] at hbm ⊢
    rcases hbm with (y | y) | y
    · exact .inl (.inl (((hm b).mp y).2.1.resolve_right bon))
    · exact .inl (.inr (fo.mp y).1)
    · exact .inr (fo.mp y).1
theorem knot_mono {ns ms : List Str} (h : ∀ n ∈ ns, n ∈ ms) (k : Knotted (wt us) ns) : Knotted (wt us) ms := by
  obtain ⟨S, h1, h2, h3⟩ := k
  exact ⟨S, h1, fun n hn => h n (h2 n hn), h3⟩
theorem fits_fall {h s o l h' o' l' : List Str} {es : List (Str × Str)} {f : Str} {u : UF} (ring : Bool) (F : Fits us ⟨h, s, o, l⟩) (C : Cl us es) (hf : f ∈ h) (hfe : (f, offS) ∈ es) (hfu : fu us f = some u) (hring : ring = true ↔ ∃ n ∈ u.needs, (n, offS) ∈ es)
    (hh : ∀ x, x ∈ h' ↔ x ∈ h ∧ (x, offS) ∉ es) (hhn : h'.Nodup) (ho : ∀ x, x ∈ o' ↔ (x ∈ o ∧ (x, offS) ∉ es) ∨ (ring = false ∧ x = f)) (hon : o'.Nodup)
    (hl : ∀ x, x ∈ l' ↔ x ∈ l ∨ ((x, offS) ∈ es ∧ x ∈ h ++ o ∧ (ring = true ∨ x ≠ f))) (hln : l'.Nodup) : Fits us ⟨h', s, o', l'⟩ := by
  obtain ⟨f1, f2, f3, f4, f5⟩ := F
  obtain ⟨n1, n2, n3⟩ := List.nodup_append.mp f2
  obtain ⟨n4, n5, n6⟩ := List.nodup_append.mp n1
  have hin : ∀ x, x ∈ h ++ o ++ l → x ∈ us.map (·.1) := fun x hx => f1 x (by
    simp only [List.mem_append] at hx ⊢
    rcases hx with (hx | hx) | hx
    · exact .inl (.inl (.inl hx))
    · exact .inl (.inr hx)
    · exact .inr hx)
  have sub : ∀ x, x ∈ h' ++ o' ++ l' → x ∈ h ++ o ++ l := fun x hx => by
    simp only [List.mem_append] at hx ⊢
    rcases hx with (hx | hx) | hx
    · exact .inl (.inl ((hh x).mp hx).1)
    · rcases (ho x).mp hx with z | z
      · exact .inl (.inr z.1)
      · exact .inl (.inl (z.2 ▸ hf))
    · rcases (hl x).mp hx with z | z
      · exact .inr z
      · exact .inl (List.mem_append.mp z.2.1)
  have ho2 : ∀ x, x ∈ h' ++ o' → x ∈ h ++ o := fun x hx => by
    simp only [List.mem_append] at hx ⊢
    rcases hx with hx | hx
    · exact .inl ((hh x).mp hx).1
    · rcases (ho x).mp hx with z | z
      · exact .inr z.1
      · exact .inl (z.2 ▸ hf)
  refine ⟨fun x hx => ?_, ?_, fun x hx v hv n hn => ?_, fun x hx b hb hbm => f4 x (ho2 x hx) b hb (sub b hbm), fun k => f5 (knot_mono (fun n hn => ?_) k)⟩
  · simp only [List.mem_append] at hx
    rcases hx with ((hx | hx) | hx) | hx
    · exact hin x (sub x (List.mem_append_left _ (List.mem_append_left _ hx)))
    · exact f1 x (by simp only [List.mem_append]; exact .inl (.inl (.inr hx)))
    · exact hin x (sub x (List.mem_append_left _ (List.mem_append_right _ hx)))
    · exact hin x (sub x (List.mem_append_right _ hx))
  · refine List.nodup_append.mpr ⟨List.nodup_append.mpr ⟨hhn, hon, fun x hx y hy e => ?_⟩, hln, fun x hx y hy e => ?_⟩
    · subst e
      obtain ⟨h1, h2⟩ := (hh x).mp hx
      rcases (ho x).mp hy with z | z
      · exact n6 x h1 x z.1 rfl
      · exact h2 (z.2 ▸ hfe)
    · subst e
      rcases (hl x).mp hy with z | ⟨z1, z2, z3⟩
      · exact n3 x (ho2 x hx) x z rfl
      · rcases List.mem_append.mp hx with y | y
        · exact ((hh x).mp y).2 z1
        · rcases (ho x).mp y with y | y
          · exact y.2 z1
          · rcases z3 with z3 | z3
            · rw [y.1] at z3
              cases z3
            · exact z3 y.2
  · have key : n ∈ h → (n, offS) ∉ es → n ∈ h' := fun z1 z2 => (hh n).mpr ⟨z1, z2⟩
    have hnh : n ∈ h := f3 x (ho2 x hx) v hv n hn
    have xn := hin x (List.mem_append_left _ (ho2 x hx))
    rcases List.mem_append.mp hx with z | z
    · exact key hnh fun z2 => ((hh x).mp z).2 (C.up z2 xn hv hn)
    · rcases (ho x).mp z with z | z
      · exact key hnh fun z2 => z.2 (C.up z2 xn hv hn)
      · obtain ⟨z1, rfl⟩ := z
        rw [hfu] at hv
        cases hv
        refine key hnh fun z2 => ?_
        rw [hring.mpr ⟨n, hn, z2⟩] at z1
        cases z1
  · obtain ⟨h1, h2⟩ := List.mem_filter.mp hn
    exact List.mem_filter.mpr ⟨((hh n).mp h1).1, h2⟩
theorem fits_stood {h s s' o l : List Str} (F : Fits us ⟨h, s, o, l⟩) (hs : ∀ x, x ∈ s' → x ∈ s) (hh : ∀ x ∈ h, x ∈ s → x ∈ s') : Fits us ⟨h, s', o, l⟩ := by
  obtain ⟨f1, f2, f3, f4, f5⟩ := F
  refine ⟨fun x hx => f1 x ?_, f2, f3, f4, ?_⟩
  · simp only [List.mem_append] at hx ⊢
    rcases hx with ((hx | hx) | hx) | hx
    · exact .inl (.inl (.inl hx))
    · exact .inl (.inl (.inr (hs x hx)))
    · exact .inl (.inr hx)
    · exact .inr hx
  · have e : openL ⟨h, s', o, l⟩ = openL ⟨h, s, o, l⟩ := by
      unfold openL
      refine List.filter_congr fun x hx => decide_eq_decide.mpr ⟨fun z y => z (hh x hx y), fun z y => z (hs x y)⟩
    rw [e]
    exact f5
end

-- SPLIT
/-! ### [x for x in xs if ..], xs a list of texts -/
section
variable {g : TG} {tt : TT} {te : TE} {vs : List Nat} {σ : L2.St} {H1 : Hp} {D a : Addr} {Qd : Hp → Prop} {xs : List Str}
/-- by a test that draws nothing -/
theorem flt (f : Str → Bool) (nD : H1 D = none) (wa : H1 a = some (.lst (xs.map V.str))) (few : xs.length ≤ 900)
    (hs : ∀ (x : Str) (H2 : Hp) (P : Hp → Prop), x ∈ xs → Same H1 H2 → (∀ H3, Same H2 H3 → f x = true → ∃ acc, H3 D = some (.lst acc) ∧ acc.length < sizeLine ∧ P (upd H3 D (.lst (acc ++ [.str x])))) → (∀ H3, Same H2 H3 → f x = false → P H3) →
      g (.str x) (wipe σ vs) H2 fun σ2 H3 => wipe σ2 vs = wipe σ vs ∧ tt σ2 H3 fun b H4 => if b = true then te σ2 H4 fun y H5 => ∃ acc, H5 D = some (.lst acc) ∧ acc.length < sizeLine ∧ P (upd H5 D (.lst (acc ++ [y]))) else P H4)
    (hd : ∀ H2, Same H1 H2 → H2 D = some (.lst ((xs.filter f).map V.str)) → Qd H2) :
    ∃ W : Nat → Nat → Hp → Prop, (∃ m, W 0 m (upd H1 D (.lst []))) ∧ ∀ i m H, W i m H →
      ((Itl K a).stop i H ∧ Qd H) ∨ ((Itl K a).go i H ∧ ∃ Nx : Hp → Prop, (∀ H', Nx H' → ∃ m', m' < m ∧ W (i + 1) m' H') ∧ ∀ x H', (Itl K a).yld i H x H' → g x (wipe σ vs) H' fun σ2 H2 => wipe σ2 vs = wipe σ vs ∧ tt σ2 H2 fun b H3 =>
        if b = true then te σ2 H3 fun y H4 => ∃ acc, H4 D = some (.lst acc) ∧ acc.length < sizeLine ∧ Nx (upd H4 D (.lst (acc ++ [y]))) else Nx H3) := by
  have w := walk_list (K := K) (a := a) (xs := xs.map V.str)
  let Pv : Nat → Hp → Prop := fun i H => Same H1 H ∧ H D = some (.lst (((xs.take i).filter f).map V.str))
  refine ⟨fun i m H => i ≤ (xs.map V.str).length ∧ m = (xs.map V.str).length - i ∧ Pv i H, ⟨_, Nat.zero_le _, rfl, same_upd nD, upd_same⟩, ?_⟩
  rintro i m H ⟨hi, rfl, hp⟩
  have hG : SqL K H a (xs.map V.str) := SqL.of (hp.1 _ _ wa)
  by_cases c : i < (xs.map V.str).length
  · refine .inr ⟨w.goes i H c hG, Pv (i + 1), fun H' h => ⟨_, by omega, by omega, rfl, h⟩, fun v H' y => ?_⟩
    obtain ⟨rfl, hv⟩ := w.yields i H v H' c hG y
    obtain ⟨x, hx, rfl⟩ := map_str_get hv
    have hlen : (((xs.take i).filter f).map V.str).length < sizeLine := by
      rw [List.length_map]
      exact Nat.lt_of_le_of_lt (List.length_filter_le _ _) (Nat.lt_of_le_of_lt (List.length_take_le' ..) (small1000 (by omega)))
    refine hs x _ (Pv (i + 1)) (List.mem_of_getElem? hx) hp.1 (fun H3 s3 hf => ⟨_, s3 _ _ hp.2, hlen, Same.own (q := D) (H1 := H3) (hp.1.trans s3) (mut_keep rfl) nD, ?_⟩) (fun H3 s3 hf => ⟨hp.1.trans s3, ?_⟩)
    · rw [upd_same, take_filter_snoc f hx, if_pos hf, List.map_append]
      rfl
    · rw [take_filter_snoc f hx, if_neg (by rw [hf]; exact Bool.false_ne_true), List.append_nil]
      exact s3 _ _ hp.2
  · obtain rfl : i = (xs.map V.str).length := by omega
    refine .inl ⟨w.stops H hG, hd H hp.1 ?_⟩
    have := hp.2
    rw [List.length_map, List.take_length] at this
    exact this
/-- by a test that may draw once -/
theorem fltB {p : Addr} {n : Nat} (must may : Str → Prop) (B : Bag n H1 p) (nD : H1 D = none) (wa : H1 a = some (.lst (xs.map V.str))) (nap : a ≠ p) (few : xs.length ≤ 900) (hnd : xs.Nodup)
    (hs : ∀ (x : Str) (H2 : Hp) (m : Nat) (P : Hp → Prop), x ∈ xs → Kp p H1 H2 → Bag m H2 p → m ≤ n + xs.length → (∀ H3, Kp p H2 H3 → Bag (m + 1) H3 p → may x → ∃ acc, H3 D = some (.lst acc) ∧ acc.length < sizeLine ∧ P (upd H3 D (.lst (acc ++ [.str x])))) → (∀ H3, Kp p H2 H3 → Bag (m + 1) H3 p → ¬ must x → P H3) →
      g (.str x) (wipe σ vs) H2 fun σ2 H3 => wipe σ2 vs = wipe σ vs ∧ tt σ2 H3 fun b H4 => if b = true then te σ2 H4 fun y H5 => ∃ acc, H5 D = some (.lst acc) ∧ acc.length < sizeLine ∧ P (upd H5 D (.lst (acc ++ [y]))) else P H4)
    (hd : ∀ H2 (ys : List Str), Kp p H1 H2 → Bag (n + xs.length) H2 p → H2 D = some (.lst (ys.map V.str)) → ys.Nodup → (∀ y ∈ ys, y ∈ xs ∧ may y) → (∀ x ∈ xs, must x → x ∈ ys) → Qd H2) :
    ∃ W : Nat → Nat → Hp → Prop, (∃ m, W 0 m (upd H1 D (.lst []))) ∧ ∀ i m H, W i m H →
      ((Itl K a).stop i H ∧ Qd H) ∨ ((Itl K a).go i H ∧ ∃ Nx : Hp → Prop, (∀ H', Nx H' → ∃ m', m' < m ∧ W (i + 1) m' H') ∧ ∀ x H', (Itl K a).yld i H x H' → g x (wipe σ vs) H' fun σ2 H2 => wipe σ2 vs = wipe σ vs ∧ tt σ2 H2 fun b H3 =>
        if b = true then te σ2 H3 fun y H4 => ∃ acc, H4 D = some (.lst acc) ∧ acc.length < sizeLine ∧ Nx (upd H4 D (.lst (acc ++ [y]))) else Nx H3) := by
  have w := walk_list (K := K) (a := a) (xs := xs.map V.str)
  have npD : p ≠ D := B.ne nD
  let Pv : Nat → Hp → Prop := fun i H => Kp p H1 H ∧ Bag (n + i) H p ∧ ∃ ys : List Str, H D = some (.lst (ys.map V.str)) ∧ ys.length ≤ i ∧ ys.Nodup ∧ (∀ y ∈ ys, y ∈ xs.take i ∧ may y) ∧ ∀ x ∈ xs.take i, must x → x ∈ ys
  refine ⟨fun i m H => i ≤ (xs.map V.str).length ∧ m = (xs.map V.str).length - i ∧ Pv i H, ⟨_, Nat.zero_le _, rfl, Kp.of (same_upd nD), B.same (same_upd nD), [], upd_same, Nat.le_refl _, List.nodup_nil, (fun y hy => nomatch hy), (fun y hy => nomatch hy)⟩, ?_⟩
  rintro i m H ⟨hi, rfl, hk, hB, ys, wD, yl, yn, ym, yx⟩
  have hG : SqL K H a (xs.map V.str) := SqL.of (hk _ _ wa nap)
  by_cases c : i < (xs.map V.str).length
  · refine .inr ⟨w.goes i H c hG, Pv (i + 1), fun H' h => ⟨_, by omega, by omega, rfl, h⟩, fun v H' y => ?_⟩
    obtain ⟨rfl, hv⟩ := w.yields i H v H' c hG y
    obtain ⟨x, hx, rfl⟩ := map_str_get hv
    rw [List.length_map] at c
    have hxt : x ∉ xs.take i := fun z => by
      obtain ⟨j, hj⟩ := List.mem_iff_getElem?.mp z
      rw [List.getElem?_take] at hj
      split at hj
      · rename_i hji
        have := (List.getElem?_inj (by omega) hnd).mp (hj.trans hx.symm)
        omega
      · cases hj
    refine hs x _ (n + i) (Pv (i + 1)) (List.mem_of_getElem? hx) hk hB (by omega) (fun H3 k3 B3 hm => ⟨_, k3 _ _ wD npD.symm, by rw [List.length_map]; exact small1000 (by omega), ?_⟩) (fun H3 k3 B3 hm => ?_)
    · refine ⟨(hk.trans k3).own (mut_keep rfl) nD, B3.keep (mut_keep rfl) npD, ys ++ [x], by rw [upd_same, List.map_append]; rfl, by rw [List.length_append]; show ys.length + 1 ≤ i + 1; omega, snoc_nodup yn fun z => hxt (ym x z).1, fun z hz => ?_, fun z hz hmz => ?_⟩
      · rw [take_snoc hx, List.mem_append]
        rcases List.mem_append.mp hz with hz | hz
        · exact ⟨.inl (ym z hz).1, (ym z hz).2⟩
        · rw [List.mem_singleton.mp hz]
          exact ⟨.inr (List.mem_singleton.mpr rfl), hm⟩
      · rw [take_snoc hx] at hz
        rcases List.mem_append.mp hz with hz | hz
        · exact List.mem_append_left _ (yx z hz hmz)
        · exact List.mem_append_right _ hz
    · refine ⟨hk.trans k3, B3, ys, k3 _ _ wD npD.symm, by omega, yn, fun z hz => ⟨by rw [take_snoc hx]; exact List.mem_append_left _ (ym z hz).1, (ym z hz).2⟩, fun z hz hmz => ?_⟩
      rw [take_snoc hx] at hz
      rcases List.mem_append.mp hz with hz | hz
      · exact yx z hz hmz
      · rw [List.mem_singleton.mp hz] at hmz
        exact absurd hmz hm
  · obtain rfl : i = (xs.map V.str).length := by omega
    rw [List.length_map] at hB ym yx
    rw [List.take_length] at ym yx
    exact .inl ⟨w.stops H hG, hd H ys hk hB wD yn ym yx⟩
end

-- SPLIT
theorem eqD_strsL {H : Hp} {a b : Addr} {xs ys : List Str} {Q : VK} (h1 : SqL K H a (xs.map V.str)) (h2 : SqL K H b (ys.map V.str)) (hx : ∀ x ∈ xs, PyData.strOk x = true) (hy : ∀ y ∈ ys, PyData.strOk y = true) (q : Q (.bl (decide (xs = ys))) H) : rEqD K (.ref a) (.ref b) H Q := by
  refine ⟨_, _, .lst h1 (dpAll_strs xs), .lst h2 (dpAll_strs ys), shaped_strs hx, shaped_strs hy, ?_⟩
  simp only [PyData.eqv]
  rw [eqvAll_strs xs ys]
  exact q
theorem lack_none {us : List (Str × UF)} {es : List (Str × Str)} (h : es.any (lackB us) = false) {x : Str} (hx : (x, onS) ∈ es) {u : UF} (hu : fu us x = some u) {n : Str} (hn : n ∈ u.needs) : n ∈ us.map (·.1) := by
  rw [List.any_eq_false] at h
  have g := h _ hx
  unfold lackB at g
  rw [show fu us (x, onS).1 = some u from hu, decide_eq_true (show (x, onS).2 = onS from rfl), Bool.true_and] at g
  refine Classical.byContradiction fun c => g (List.any_eq_true.mpr ⟨n, hn, ?_⟩)
  rw [decide_eq_false c]
  rfl
/-- a rising list -/
def Rise (xs : List Str) : Prop := xs.Pairwise fun x y => leS x y = true
theorem Rise.filter {xs : List Str} (h : Rise xs) (f : Str → Bool) : Rise (xs.filter f) := List.Pairwise.sublist List.filter_sublist h
def SAt (H : Hp) (a : Addr) (xs : List Str) : Prop := H a = some (.lst (xs.map V.str))
def sp_law_stand_drawn (K : PySem.W.Frag) : Sp := fun vs H Q _ => ∃ (p d : Addr) (n : Nat) (us : List (Str × UF)), vs = [.ref p, .ref d] ∧ Bag n H p ∧ n < 600000000 ∧ LF K H d us ∧ NBr us ∧ 0 < us.length ∧
  ∀ (t a1 a2 a3 a4 : Addr) (s : SF) H', Bag (n + 800) H' p → Kp p H H' → LF K H' d us → H t = none → H' t = some (.tup [.ref a1, .ref a2, .ref a3, .ref a4]) → SAt H' a1 s.wished → SAt H' a2 s.up → SAt H' a3 s.later → SAt H' a4 s.back → a1 ≠ p → a2 ≠ p → a3 ≠ p → a4 ≠ p → Fits us s → s.up.Nodup → Rise s.wished → Q (.ref t) H'
theorem ok_law_stand_drawn (T : Txt K mg) : FnOk P w K mg base CX0 9 (He.fAd K ("_law_stand_drawn", none)) T.d_law_stand_drawn ["_law_bag_here", "_law_facts_here"] (sp_law_stand_drawn K) := by
  refine T.F_law_stand_drawn.ok sc_law_stand_drawn (fun vs H Q E h => ?_) (fun cdv A outer s H vs Q E hr h => ?_)
  · obtain ⟨p, d, n, us, rfl, _⟩ := h
    rfl
  · obtain ⟨p, d, n, us, rfl, B, hn, hF, hB, hu0, q⟩ := h
    refine ⟨_, PSs.nox (pss_cons (ps_asg (pe_tup (pa_cons (pe_lst pa_nil) (pa_cons (pe_lst pa_nil) (pa_cons (pe_lst pa_nil) (pa_cons (pe_lst pa_nil) pa_nil))))) (pg_tup rfl (pgs_cons (pg_name (i := 2) sc_law_stand_drawn.nd rfl (Or.inr rfl)) (pgs_cons (pg_name (i := 3) sc_law_stand_drawn.nd rfl (Or.inr rfl)) (pgs_cons (pg_name (i := 4) sc_law_stand_drawn.nd rfl (Or.inr rfl)) (pgs_cons (pg_name (i := 5) sc_law_stand_drawn.nd rfl (Or.inr rfl)) pgs_nil))))))
      (pss_cons (ps_set (i := 6) sc_law_stand_drawn.nd rfl (Or.inl rfl) (pe_callB (id := "sorted")  (call_sortedD rfl) (by rfl) T.n_sorted (by decide +kernel) (pa_cons (pv 1) pa_nil)))
      (pss_cons (ps_for PassesOwn.never rfl (pi_range1 (by rfl) T.n_range (pa_cons (pe_call (ok_law_take T) (hr.mono (by decide)) (by rfl) T.m_law_take T.F_law_take.kp T.b_law_take .nil pass0 (pa_cons (pv 0) (pa_cons pe_int pa_nil))) pa_nil)) (pg_name (i := 7) sc_law_stand_drawn.nd rfl (Or.inl rfl))
      (pss_cons (ps_set (i := 8) sc_law_stand_drawn.nd rfl (Or.inl rfl) (pe_ix ix_list (pv 6) (pe_call (ok_law_take T) (hr.mono (by decide)) (by rfl) T.m_law_take T.F_law_take.kp T.b_law_take .nil pass0 (pa_cons (pv 0) (pa_cons (pe_callB (id := "len")  call_len_seq (by rfl) T.n_len (by decide +kernel) (pa_cons (pv 6) pa_nil)) pa_nil))) (fun _ _ => rfl)))
      (pss_cons (ps_set (i := 9) sc_law_stand_drawn.nd rfl (Or.inl rfl) (pe_call (ok_law_followed T) (hr.mono (by decide)) (by rfl) T.m_law_followed T.F_law_followed.kp T.b_law_followed .nil pass0 (pa_cons (pv 1) (pa_cons (pe_lst (pa_cons (pe_tup (pa_cons (pv 8) (pa_cons pe_str pa_nil))) pa_nil)) pa_nil))))
      (pss_cons (ps_asg (pe_tup (pa_cons (pe_call (ok_law_ways T) (hr.mono (by decide)) (by rfl) T.m_law_ways T.F_law_ways.kp T.b_law_ways .nil pass0 (pa_cons (pv 9) (pa_cons pe_str pa_nil))) (pa_cons (pe_call (ok_law_ways T) (hr.mono (by decide)) (by rfl) T.m_law_ways T.F_law_ways.kp T.b_law_ways .nil pass0 (pa_cons (pv 9) (pa_cons pe_str pa_nil))) pa_nil))) (pg_tup rfl (pgs_cons (pg_name (i := 10) sc_law_stand_drawn.nd rfl (Or.inr rfl)) (pgs_cons (pg_name (i := 11) sc_law_stand_drawn.nd rfl (Or.inr rfl)) pgs_nil))))
      (pss_cons (ps_setLc (i := 12) (own := [("_law_one", 19)]) (by rfl) sc_law_stand_drawn.nd rfl rfl (sw_true rfl rfl rfl (by decide +kernel)) (pi_list (pv 6)) (blkOk_by (own := [("_law_one", 19)]) (N := N_law_stand_drawn) (sc := defScope s_law_stand_drawn) (by decide +kernel)) (fun _ _ _ _ _ => (pg_name (i := 19) sc_law_stand_drawn.nd rfl (Or.inl rfl))) (fun _ _ _ _ _ => (pts_one (PW.pt (pw_and (PW.pt (pw_or (pt_cmpR (r := rIn K false) op_in_seq (pv 19) (pv 2) (by rfl)) (pw_or1 (pt_cmpR (r := rIn K false) op_in_seq (pv 19) (pv 10) (by rfl))))) (pw_and1 (pt_cmpR (r := rIn K true) op_notIn_seq (pv 19) (pv 11) (by rfl))))))) (fun _ _ _ _ _ => (pv 19)))
      (pss_cons (ps_set (i := 13) sc_law_stand_drawn.nd rfl (Or.inr rfl) (pe_lc (own := [("_law_one", 19)]) (by rfl) sc_law_stand_drawn.nd (pi_list (pv 12)) (blkOk_by (own := [("_law_one", 19)]) (N := N_law_stand_drawn) (sc := defScope s_law_stand_drawn) (by decide +kernel)) (fun _ _ _ _ _ => (pg_name (i := 19) sc_law_stand_drawn.nd rfl (Or.inl rfl))) (fun _ _ _ _ _ => (pts_one (PW.pt (pw_or (pt_cmpR (r := rIn K false) op_in_seq (pv 19) (pv 3) (by rfl)) (pw_or1 (pt_cmpR op_gt (pe_call (ok_law_take T) (hr.mono (by decide)) (by rfl) T.m_law_take T.F_law_take.kp T.b_law_take .nil pass0 (pa_cons (pv 0) (pa_cons pe_int pa_nil))) pe_int (nomark _))))))) (fun _ _ _ _ _ => (pv 19))))
      (pss_cons (ps_setLc (i := 14) (own := [("_law_one", 19)]) (by rfl) sc_law_stand_drawn.nd rfl rfl (sw_true rfl rfl rfl (by decide +kernel)) (pi_list (pv 12)) (blkOk_by (own := [("_law_one", 19)]) (N := N_law_stand_drawn) (sc := defScope s_law_stand_drawn) (by decide +kernel)) (fun _ _ _ _ _ => (pg_name (i := 19) sc_law_stand_drawn.nd rfl (Or.inl rfl))) (fun _ _ _ _ _ => (pts_one (pt_cmpR (r := rIn K true) op_notIn_seq (pv 19) (pv 13) (by rfl)))) (fun _ _ _ _ _ => (pv 19)))
      (pss_mid (ps_if (pt_mid (PW.pt (pw_and (pt_not (pt_val (pe_call (ok_law_lacks T) (hr.mono (by decide)) (by rfl) T.m_law_lacks T.F_law_lacks.kp T.b_law_lacks .nil pass0 (pa_cons (pv 1) (pa_cons (pv 9) pa_nil))))) (pw_and (pt_cmpR op_isN (pe_call (ok_law_clash T) (hr.mono (by decide)) (by rfl) T.m_law_clash T.F_law_clash.kp T.b_law_clash .nil pass0 (pa_cons (pv 9) pa_nil)) pe_non (nomark _)) (pw_and1 (pt_cmpR (op_eqD hr.units) (pe_call (ok_law_knotted T) (hr.mono (by decide)) (by rfl) T.m_law_knotted T.F_law_knotted.kp T.b_law_knotted .nil pass0 (pa_cons (pv 1) (pa_cons (pv 14) pa_nil))) (pe_lst pa_nil) (nomark _)))))))
      (pss_cons (ps_asg (pe_tup (pa_cons (pv 12) (pa_cons (pv 13) pa_nil))) (pg_tup rfl (pgs_cons (pg_name (i := 2) sc_law_stand_drawn.nd rfl (Or.inr rfl)) (pgs_cons (pg_name (i := 3) sc_law_stand_drawn.nd rfl (Or.inr rfl)) pgs_nil))))
      (pss_cons (ps_set (i := 4) sc_law_stand_drawn.nd rfl (Or.inr rfl) (pe_lc (own := [("_law_one", 19)]) (by rfl) sc_law_stand_drawn.nd (pi_list (pv 4)) (blkOk_by (own := [("_law_one", 19)]) (N := N_law_stand_drawn) (sc := defScope s_law_stand_drawn) (by decide +kernel)) (fun _ _ _ _ _ => (pg_name (i := 19) sc_law_stand_drawn.nd rfl (Or.inl rfl))) (fun _ _ _ _ _ => (pts_one (pt_cmpR (r := rIn K true) op_notIn_seq (pv 19) (pe_op op_cat (pv 10) (pv 11)) (by rfl)))) (fun _ _ _ _ _ => (pv 19))))
      (pss_one (ps_set (i := 5) sc_law_stand_drawn.nd rfl (Or.inr rfl) (pe_lc (own := [("_law_one", 19)]) (by rfl) sc_law_stand_drawn.nd (pi_list (pv 5)) (blkOk_by (own := [("_law_one", 19)]) (N := N_law_stand_drawn) (sc := defScope s_law_stand_drawn) (by decide +kernel)) (fun _ _ _ _ _ => (pg_name (i := 19) sc_law_stand_drawn.nd rfl (Or.inl rfl))) (fun _ _ _ _ _ => (pts_one (pt_cmpR (r := rIn K true) op_notIn_seq (pv 19) (pe_op op_cat (pv 10) (pv 11)) (by rfl)))) (fun _ _ _ _ _ => (pv 19)))))))
      pss_nil)
      (pss_one (ps_if (pt_mid (PW.pt (pw_and (pt_cmpR (op_neD hr.units) (pv 2) (pe_lst pa_nil) (nomark _)) (pw_and1 (pt_cmpR op_eq (pe_call (ok_law_take T) (hr.mono (by decide)) (by rfl) T.m_law_take T.F_law_take.kp T.b_law_take .nil pass0 (pa_cons (pv 0) (pa_cons pe_int pa_nil))) pe_int (nomark _))))))
      (pss_cons (ps_set (i := 15) sc_law_stand_drawn.nd rfl (Or.inr rfl) (pe_ix ix_list (pv 2) (pe_call (ok_law_take T) (hr.mono (by decide)) (by rfl) T.m_law_take T.F_law_take.kp T.b_law_take .nil pass0 (pa_cons (pv 0) (pa_cons (pe_callB (id := "len")  call_len_seq (by rfl) T.n_len (by decide +kernel) (pa_cons (pv 2) pa_nil)) pa_nil))) (fun _ _ => rfl)))
      (pss_cons (ps_set (i := 16) sc_law_stand_drawn.nd rfl (Or.inr rfl) (pe_call (ok_law_ways T) (hr.mono (by decide)) (by rfl) T.m_law_ways T.F_law_ways.kp T.b_law_ways .nil pass0 (pa_cons (pe_call (ok_law_followed T) (hr.mono (by decide)) (by rfl) T.m_law_followed T.F_law_followed.kp T.b_law_followed .nil pass0 (pa_cons (pv 1) (pa_cons (pe_lst (pa_cons (pe_tup (pa_cons (pv 15) (pa_cons pe_str pa_nil))) pa_nil)) pa_nil))) (pa_cons pe_str pa_nil))))
      (pss_cons (ps_set (i := 17) sc_law_stand_drawn.nd rfl (Or.inr rfl) (pe_cmpR op_in_seq pe_bl (pe_lc (own := [("_law_one", 19)]) (by rfl) sc_law_stand_drawn.nd (pi_tup (pe_ix ix_tup (pe_dget (hu_of hr) (pv 1) (pv 15) (fun _ _ => rfl)) pe_int (fun _ _ => rfl))) (blkOk_by (own := [("_law_one", 19)]) (N := N_law_stand_drawn) (sc := defScope s_law_stand_drawn) (by decide +kernel)) (fun _ _ _ _ _ => (pg_name (i := 19) sc_law_stand_drawn.nd rfl (Or.inl rfl))) (fun _ _ _ _ _ => pts_nil) (fun _ _ _ _ _ => (pe_cmpR (r := rIn K false) op_in_seq (pv 19) (pv 16) (by rfl)))) (by rfl)))
      (pss_cons (ps_setLc (i := 18) (own := [("_law_one", 19)]) (by rfl) sc_law_stand_drawn.nd rfl rfl (sw_true rfl rfl rfl (by decide +kernel)) (pi_list (pv 16)) (blkOk_by (own := [("_law_one", 19)]) (N := N_law_stand_drawn) (sc := defScope s_law_stand_drawn) (by decide +kernel)) (fun _ _ _ _ _ => (pg_name (i := 19) sc_law_stand_drawn.nd rfl (Or.inl rfl))) (fun _ _ _ _ _ => (pts_one (PW.pt (pw_and (pt_cmpR (r := rIn K false) op_in_seq (pv 19) (pe_op op_cat (pv 2) (pv 4)) (by rfl)) (pw_and1 (PW.pt (pw_or (pt_val (pv 17)) (pw_or1 (pt_cmpR op_ne (pv 19) (pv 15) (nomark _)))))))))) (fun _ _ _ _ _ => (pv 19)))
      (pss_cons (ps_set (i := 5) sc_law_stand_drawn.nd rfl (Or.inr rfl) (pe_callB (id := "sorted")  cr_sortedS (by rfl) T.n_sorted (by decide +kernel) (pa_cons (pe_op op_cat (pv 5) (pe_lc (own := [("_law_one", 19)]) (by rfl) sc_law_stand_drawn.nd (pi_list (pv 18)) (blkOk_by (own := [("_law_one", 19)]) (N := N_law_stand_drawn) (sc := defScope s_law_stand_drawn) (by decide +kernel)) (fun _ _ _ _ _ => (pg_name (i := 19) sc_law_stand_drawn.nd rfl (Or.inl rfl))) (fun _ _ _ _ _ => (pts_one (pt_cmpR (r := rIn K true) op_notIn_seq (pv 19) (pv 5) (by rfl)))) (fun _ _ _ _ _ => (pv 19)))) pa_nil)))
      (pss_cons (ps_set (i := 4) sc_law_stand_drawn.nd rfl (Or.inr rfl) (pe_callB (id := "sorted")  cr_sortedS (by rfl) T.n_sorted (by decide +kernel) (pa_cons (pe_op op_cat (pe_lc (own := [("_law_one", 19)]) (by rfl) sc_law_stand_drawn.nd (pi_list (pv 4)) (blkOk_by (own := [("_law_one", 19)]) (N := N_law_stand_drawn) (sc := defScope s_law_stand_drawn) (by decide +kernel)) (fun _ _ _ _ _ => (pg_name (i := 19) sc_law_stand_drawn.nd rfl (Or.inl rfl))) (fun _ _ _ _ _ => (pts_one (pt_cmpR (r := rIn K true) op_notIn_seq (pv 19) (pv 16) (by rfl)))) (fun _ _ _ _ _ => (pv 19))) (pe_slice sl_list (pe_lst (pa_cons (pv 15) pa_nil)) po_none (po_some (pe_callTy (T := "int")  call_int1 (by rfl) T.n_int (by decide +kernel) (pa_cons (pe_not (pv 17)) pa_nil))))) pa_nil)))
      (pss_one (ps_set (i := 2) sc_law_stand_drawn.nd rfl (Or.inr rfl) (pe_lc (own := [("_law_one", 19)]) (by rfl) sc_law_stand_drawn.nd (pi_list (pv 2)) (blkOk_by (own := [("_law_one", 19)]) (N := N_law_stand_drawn) (sc := defScope s_law_stand_drawn) (by decide +kernel)) (fun _ _ _ _ _ => (pg_name (i := 19) sc_law_stand_drawn.nd rfl (Or.inl rfl))) (fun _ _ _ _ _ => (pts_one (pt_cmpR (r := rIn K true) op_notIn_seq (pv 19) (pv 16) (by rfl)))) (fun _ _ _ _ _ => (pv 19)))))))))))
      pss_nil))))))))))
      (pss_cons (ps_set (i := 3) sc_law_stand_drawn.nd rfl (Or.inr rfl) (pe_lc (own := [("_law_one", 19)]) (by rfl) sc_law_stand_drawn.nd (pi_list (pv 6)) (blkOk_by (own := [("_law_one", 19)]) (N := N_law_stand_drawn) (sc := defScope s_law_stand_drawn) (by decide +kernel)) (fun _ _ _ _ _ => (pg_name (i := 19) sc_law_stand_drawn.nd rfl (Or.inl rfl))) (fun _ _ _ _ _ => (pts_one (PW.pt (pw_and (pt_cmpR (r := rIn K false) op_in_seq (pv 19) (pv 3) (by rfl)) (pw_and1 (PW.pt (pw_or (pt_cmpR (r := rIn K false) op_in_seq (pv 19) (pv 2) (by rfl)) (pw_or1 (pt_cmpR op_eq (pe_call (ok_law_take T) (hr.mono (by decide)) (by rfl) T.m_law_take T.F_law_take.kp T.b_law_take .nil pass0 (pa_cons (pv 0) (pa_cons pe_int pa_nil))) pe_int (nomark _)))))))))) (fun _ _ _ _ _ => (pv 19))))
      (pss_one (ps_ret (pe_tup (pa_cons (pv 2) (pa_cons (pv 3) (pa_cons (pv 4) (pa_cons (pv 5) pa_nil))))))))))), ?_⟩
    have hN := hF.nms
    have hul := hN.len
    rw [List.length_map] at hul
    -- hoped, stood, owed, lost = [], [], [], []
    refine ⟨by show 0 ≤ sizeLine; decide, fun a1 n1 => ?_⟩
    generalize hE1 : upd H a1 _ = H1
    have w1 : SAt H1 a1 [] := new_at hE1
    have s1 := new_same hE1 n1
    refine ⟨by show 0 ≤ sizeLine; decide, fun a2 n2 => ?_⟩
    generalize hE2 : upd H1 a2 _ = H2
    have w2 : SAt H2 a2 [] := new_at hE2
    have s2 := new_same hE2 n2
    refine ⟨by show 0 ≤ sizeLine; decide, fun a3 n3 => ?_⟩
    generalize hE3 : upd H2 a3 _ = H3
    have w3 : SAt H3 a3 [] := new_at hE3
    have s3 := new_same hE3 n3
    refine ⟨by show 0 ≤ sizeLine; decide, fun a4 n4 => ?_⟩
    generalize hE4 : upd H3 a4 _ = H4
    have w4 : SAt H4 a4 [] := new_at hE4
    have s4 := new_same hE4 n4
    refine ⟨by show 4 ≤ sizeLine; decide, fun t0 nt0 => ?_⟩
    generalize hE5 : upd H4 t0 _ = H5
    have w5 := new_at hE5
    have s5 := new_same hE5 nt0
    refine ⟨t0, _, rfl, SqT.of w5, rfl, _, _, rfl, _, _, rfl, _, _, rfl, _, _, rfl, rfl, ?_⟩
    have s05 : Same H H5 := (((s1.trans s2).trans s3).trans s4).trans s5
    have B5 := B.same s05
    -- words
    obtain ⟨kv5, wd5, ht5⟩ := (hF.same s05).ex
    refine ⟨_, rfl, d, kv5, us.map (·.1), rfl, .inl wd5, ht5.keys, by rw [List.length_map]; omega, fun ys w6 hy hs nw6 => ?_⟩
    obtain rfl := srt_of hy hs
    obtain ⟨words, hwords⟩ : ∃ words, srt (us.map (·.1)) = words := ⟨_, rfl⟩
    rw [hwords]
    have wmem : ∀ x, x ∈ words ↔ x ∈ us.map (·.1) := fun x => by rw [← hwords]; exact srt_mem
    have wnd : words.Nodup := by rw [← hwords]; exact srt_nodup hN.nd
    have wlen : words.length = us.length := by rw [← hwords, srt_len, List.length_map]
    generalize hE6 : upd H5 w6 _ = H6
    have ww6 : SAt H6 w6 words := new_at hE6
    have s6 := new_same hE6 nw6
    have s06 := s05.trans s6
    have B6 := B.same s06
    have npw : w6 ≠ p := (B5.ne nw6).symm
    -- for turn in range(take(bag, 7))
    refine ⟨_, rfl, ?_⟩
    refine take_of (z := 7) B6 (by decide) (by decide) (by omega) fun r7 H7 r70 r71 B7 k7 => ?_
    obtain ⟨jt, rfl⟩ := Int.eq_ofNat_of_zero_le r70
    have k07 : Kp p H H7 := (Kp.of s06).trans k7
    have np1 : a1 ≠ p := (B.ne n1).symm
    have np2 : a2 ≠ p := ((B.same s1).ne n2).symm
    have np3 : a3 ≠ p := ((B.same (s1.trans s2)).ne n3).symm
    have np4 : a4 ≠ p := ((B.same ((s1.trans s2).trans s3)).ne n4).symm
    have fits0 : Fits us ⟨[], [], [], []⟩ := ⟨(fun x hx => nomatch hx), List.nodup_nil, (fun x hx => nomatch hx), (fun x hx => nomatch hx), fun ⟨S, hne, hS, _⟩ => by
      cases S with
      | nil => exact hne rfl
      | cons x r => exact nomatch hS x (List.mem_cons_self ..)⟩
    refine ⟨_, rfl, by omega, by omega, for_range (lo := 0) (n := (jt : Int).toNat) (fun i σ H' => Bag (n + 10 + 60 * i) H' p ∧ Kp p H H' ∧ LF K H' d us ∧ SAt H' w6 words ∧ ∃ (a1 a2 a3 a4 : Addr) (h s o l : List Str) (y7 y8 y9 y10 y11 y12 y13 y14 y15 y16 y17 y18 y19 : Option V), SAt H' a1 h ∧ SAt H' a2 s ∧ SAt H' a3 o ∧ SAt H' a4 l ∧ a1 ≠ p ∧ a2 ≠ p ∧ a3 ≠ p ∧ a4 ≠ p ∧ Fits us ⟨h, s, o, l⟩ ∧ (s.Nodup ∧ Rise h) ∧
        σ = [some (.ref p), some (.ref d), some (.ref a1), some (.ref a2), some (.ref a3), some (.ref a4), some (.ref w6), y7, y8, y9, y10, y11, y12, y13, y14, y15, y16, y17, y18, y19])
      ⟨B7.le (by omega), k07, (hF.same s06).keepB k7 B6, k7 _ _ ww6 npw, a1, a2, a3, a4, [], [], [], [], _, _, _, _, _, _, _, _, _, _, _, _, _, k7 _ _ (s6 _ _ (s5 _ _ (s4 _ _ (s3 _ _ (s2 _ _ w1))))) np1, k7 _ _ (s6 _ _ (s5 _ _ (s4 _ _ (s3 _ _ w2)))) np2, k7 _ _ (s6 _ _ (s5 _ _ (s4 _ _ w3))) np3, k7 _ _ (s6 _ _ (s5 _ _ w4)) np4, np1, np2, np3, np4, fits0, ⟨List.nodup_nil, List.Pairwise.nil⟩, rfl⟩ ?_ ?_⟩
    · clear w1 w2 w3 w4 np1 np2 np3 np4 hE1 hE2 hE3 hE4 hE5 hE6 n1 n2 n3 n4 nt0 w5 a1 a2 a3 a4
      rintro i σ H8 hi ⟨B8, k8, hF8, ww8, a1, a2, a3, a4, h, s, o, l, y7, y8, y9, y10, y11, y12, y13, y14, y15, y16, y17, y18, y19, w1, w2, w3, w4, np1, np2, np3, np4, hfit, snd, rfl⟩
      have hi7 : i < 7 := by omega
      obtain ⟨f1, f2, f3, f4, f5⟩ := id hfit
      have hin : ∀ x ∈ h ++ s ++ o ++ l, x ∈ us.map (·.1) := f1
      have lenOf : ∀ {ys : List Str}, ys.Nodup → (∀ y ∈ ys, y ∈ us.map (·.1)) → ys.length ≤ 16 := fun hn hs => Nat.le_trans (nodup_le _ _ hn hs) hN.len
      obtain ⟨m1, m2, m3⟩ := List.nodup_append.mp f2
      obtain ⟨m4, m5, m6⟩ := List.nodup_append.mp m1
      have hh : ∀ x ∈ h, x ∈ us.map (·.1) := fun x hx => hin x (by simp only [List.mem_append]; exact .inl (.inl (.inl hx)))
      have hs' : ∀ x ∈ s, x ∈ us.map (·.1) := fun x hx => hin x (by simp only [List.mem_append]; exact .inl (.inl (.inr hx)))
      have ho' : ∀ x ∈ o, x ∈ us.map (·.1) := fun x hx => hin x (by simp only [List.mem_append]; exact .inl (.inr hx))
      have hl' : ∀ x ∈ l, x ∈ us.map (·.1) := fun x hx => hin x (by simp only [List.mem_append]; exact .inr hx)
      -- word
      refine ⟨_, rfl, _, rfl, _, rfl, w6, _, rfl, .inl (SqL.of ww8), ?_⟩
      refine take_of (z := ((words.map V.str).length : Int)) B8 (by rw [List.length_map, wlen]; omega) (by rw [List.length_map, wlen]; omega) (by omega) fun r9 H9 r90 r91 B9 k9 => ?_
      rw [List.length_map] at r91
      obtain ⟨word, hword, eword⟩ := menu_str (zs := words) r90 r91
      refine ⟨w6, _, _, _, rfl, rfl, SqL.of (k9 _ _ ww8 npw), eword, ?_⟩
      have hwm := (wmem word).mp hword
      have hF9 := hF8.keepB k9 B8
      -- demands
      refine ⟨_, rfl, _, rfl, by show 2 ≤ sizeLine; decide, fun t1 nt1 => ?_⟩
      generalize hE10 : upd H9 t1 _ = H10
      have wt1 := new_at hE10
      have s10 := new_same hE10 nt1
      refine ⟨by show 1 ≤ sizeLine; decide, fun l1 nl1 => ?_⟩
      generalize hE11 : upd H10 l1 _ = H11
      have wl1 := new_at hE11
      have s11 := new_same hE11 nl1
      have s911 := s10.trans s11
      refine ⟨d, l1, us, [.ref t1], [(word, onS)], rfl, hF9.same s911, hB, SqL.of wl1, .cons (s11 _ _ wt1) .nil, fun e he => by rw [List.mem_singleton.mp he]; exact ⟨hwm, .inl rfl⟩, by show 1 ≤ 40; decide, fun Dd dxs es0 H12 nDd s12 wDd pDd dn dm => ?_⟩
      obtain ⟨es, hes⟩ : ∃ es, srtP es0 = es := ⟨_, rfl⟩
      rw [hes] at pDd
      have wd1 : ∀ e ∈ [(word, onS)], WD us e := fun e he => by rw [List.mem_singleton.mp he]; exact ⟨hwm, .inl rfl⟩
      have em : ∀ e, e ∈ es ↔ Reach us [(word, onS)] e := fun e => by rw [← hes, srtP_mem]; exact dm e
      have hC : Cl us es := ⟨fun e he => reach_wd wd1 ((em e).mp he), fun a ha b hb => (em b).mpr (.step ((em a).mp ha) hb)⟩
      have ewl : es.length ≤ 32 := by
        rw [← hes, srtP_len]
        exact wd_few hN dn fun e he => reach_wd wd1 ((dm e).mp he)
      have eok : ∀ e ∈ es, Ok2 e := fun e he => wd_ok hN (hC.wd e he)
      -- ons, offs
      refine ⟨_, rfl, Dd, onS, dxs, es, rfl, SqL.of wDd, pDd, by omega, fun on Hy1 nOn sy1 wOn => ?_⟩
      refine ⟨_, rfl, Dd, offS, dxs, es, rfl, SqL.of (sy1 _ _ wDd), pDd.same sy1, by omega, fun off Hy2 nOff sy2 wOff => ?_⟩
      refine ⟨by show 2 ≤ sizeLine; decide, fun t2 nt2 => ?_⟩
      generalize hE13 : upd Hy2 t2 _ = H13
      have wt2 := new_at hE13
      have s13 := new_same hE13 nt2
      refine ⟨t2, _, rfl, SqT.of wt2, rfl, _, _, rfl, _, _, rfl, rfl, ?_⟩
      have sA : Same H9 H13 := (((s911.trans s12).trans sy1).trans sy2).trans s13
      have sB : Same H12 H13 := (sy1.trans sy2).trans s13
      obtain ⟨ons, hons⟩ : ∃ xs, waysL es onS = xs := ⟨_, rfl⟩
      obtain ⟨offs, hoffs⟩ : ∃ xs, waysL es offS = xs := ⟨_, rfl⟩
      have onm : ∀ x, x ∈ ons ↔ (x, onS) ∈ es := fun x => by rw [← hons]; exact waysL_mem
      have offm : ∀ x, x ∈ offs ↔ (x, offS) ∈ es := fun x => by rw [← hoffs]; exact waysL_mem
      rw [hons] at wOn
      rw [hoffs] at wOff
      have wOn13 : SAt H13 on ons := s13 _ _ (sy2 _ _ wOn)
      have wOff13 : SAt H13 off offs := s13 _ _ wOff
      have keep13 : ∀ {a : Addr} {xs : List Str}, SAt H8 a xs → a ≠ p → SAt H13 a xs := fun e ne => sA _ _ (k9 _ _ e ne)
      have ww13 := keep13 ww8 npw
      have w1' := keep13 w1 np1
      have w2' := keep13 w2 np2
      have w3' := keep13 w3 np3
      have w4' := keep13 w4 np4
      have B13 := B9.same sA
      -- more
      refine ⟨_, rfl, w6, rfl, ⟨_, SqL.of ww13⟩, fun Dm nDm => flt (K := K) (fun x => decide ((x ∈ h ∨ x ∈ ons) ∧ x ∉ offs)) nDm ww13 (by omega) (fun x Ha P hx sa yes no => ?_) (fun H14 s14 wDm => ?_)⟩
      · refine ⟨rfl, ?_⟩
        refine ⟨_, rfl, _, rfl, a1, _, rfl, .inl (SqL.of (sa _ _ w1')), rfl, strs_flat h, _, rfl, ?_⟩
        rw [inV_str]
        have third : ∀ {Hb : Hp}, (x ∈ h ∨ x ∈ ons) → tTest (tOp (rIn K true) (tVar 19) (tVar 11)) [some (.ref p), some (.ref d), some (.ref a1), some (.ref a2), some (.ref a3), some (.ref a4), some (.ref w6), some (.int (0 + (i : Int))), some (.str word), some (.ref Dd), some (.ref on), some (.ref off), y12, y13, y14, y15, y16, y17, y18, some (.str x)] Ha (fun b H4 => if b = true then tVar 19 [some (.ref p), some (.ref d), some (.ref a1), some (.ref a2), some (.ref a3), some (.ref a4), some (.ref w6), some (.int (0 + (i : Int))), some (.str word), some (.ref Dd), some (.ref on), some (.ref off), y12, y13, y14, y15, y16, y17, y18, some (.str x)] H4 (fun y H5 => ∃ acc, H5 Dm = some (HO.lst acc) ∧ acc.length < sizeLine ∧ P (upd H5 Dm (HO.lst (acc ++ [y])))) else P H4) := fun {Hb} hc => by
          refine ⟨_, rfl, _, rfl, off, _, rfl, .inl (SqL.of (sa _ _ wOff13)), rfl, strs_flat offs, _, rfl, ?_⟩
          show if (if true = true then !inV (.str x) (offs.map V.str) else _) = true then _ else _
          rw [if_pos rfl, inV_str]
          by_cases c : x ∈ offs
          · rw [decide_eq_true c]
            exact iteF (no _ (Same.refl _) (decide_eq_false fun z => z.2 c))
          · rw [decide_eq_false c]
            exact iteT ⟨_, rfl, yes _ (Same.refl _) (decide_eq_true ⟨hc, c⟩)⟩
        by_cases c1 : x ∈ h
        · rw [decide_eq_true c1]
          exact iteT (iteT (third (Hb := Ha) (.inl c1)))
        · rw [decide_eq_false c1]
          refine iteF ⟨_, rfl, _, rfl, on, _, rfl, .inl (SqL.of (sa _ _ wOn13)), rfl, strs_flat ons, _, rfl, ?_⟩
          rw [inV_str]
          by_cases c2 : x ∈ ons
          · rw [decide_eq_true c2]
            exact iteT (third (Hb := Ha) (.inr c2))
          · rw [decide_eq_false c2]
            exact iteF (no _ (Same.refl _) (decide_eq_false fun z => z.1.elim c1 c2))
      obtain ⟨more, hmore⟩ : ∃ more, words.filter (fun x => decide ((x ∈ h ∨ x ∈ ons) ∧ x ∉ offs)) = more := ⟨_, rfl⟩
      rw [hmore] at wDm
      have mnd : more.Nodup := by rw [← hmore]; exact wnd.filter _
      have mrise : Rise more := by rw [← hmore, ← hwords]; exact Rise.filter (srt_pw _) _
      have mm : ∀ x, x ∈ more ↔ x ∈ us.map (·.1) ∧ (x ∈ h ∨ (x, onS) ∈ es) ∧ (x, offS) ∉ es := fun x => by
        rw [← hmore, List.mem_filter, wmem]
        refine and_congr_right fun _ => ⟨fun z => ?_, fun z => decide_eq_true ⟨z.1.imp id (onm x).mpr, fun y => z.2 ((offm x).mp y)⟩⟩
        obtain ⟨z1, z2⟩ := of_decide_eq_true z
        exact ⟨z1.imp id (onm x).mp, fun y => z2 ((offm x).mpr y)⟩
      have mlen := lenOf mnd fun x hx => ((mm x).mp hx).1
      have B14 := B13.same s14
      have npm : Dm ≠ p := (B13.ne nDm).symm
      -- risen
      refine ⟨_, rfl, Dm, rfl, ⟨_, SqL.of wDm⟩, fun Dr nDr => fltB (K := K) (fun x => x ∈ s) (fun _ => True) B14 nDr wDm npm (by omega) mnd (fun x Ha m P hx ka Bm hm yes no => ?_) (fun H15 risen k15 B15 wDr rnd rsub _ => ?_)⟩
      · refine ⟨rfl, ?_⟩
        have w2a : SAt Ha a2 s := ka _ _ (s14 _ _ w2') np2
        refine ⟨_, rfl, _, rfl, a2, _, rfl, .inl (SqL.of w2a), rfl, strs_flat s, _, rfl, ?_⟩
        rw [inV_str]
        by_cases c1 : x ∈ s
        · rw [decide_eq_true c1]
          exact iteT (iteT ⟨_, rfl, yes _ (Kp.refl _ _) (Bm.le (by omega)) trivial⟩)
        · rw [decide_eq_false c1]
          refine iteF ⟨_, rfl, ?_⟩
          refine take_of (z := 3) Bm (by decide) (by decide) (by omega) fun rb Hb rb0 rb1 Bb kb => ?_
          refine ⟨_, _, rfl, rfl, _, rfl, ?_⟩
          refine ite2 (fun _ => ⟨_, rfl, yes _ kb Bb trivial⟩) (fun _ => no _ kb Bb c1)
      have wDm15 : SAt H15 Dm more := k15 _ _ wDm npm
      have keep15 : ∀ {a : Addr} {xs : List Str}, SAt H13 a xs → a ≠ p → SAt H15 a xs := fun e ne => k15 _ _ (s14 _ _ e) ne
      have npr : Dr ≠ p := (B14.ne nDr).symm
      have wDr15 : SAt H15 Dr risen := wDr
      -- shut
      refine ⟨_, rfl, Dm, rfl, ⟨_, SqL.of wDm15⟩, fun Ds nDs => flt (K := K) (fun x => decide (x ∉ risen)) nDs wDm15 (by omega) (fun x Ha P hx sa yes no => ?_) (fun H16 s16 wDs => ?_)⟩
      · refine ⟨rfl, _, rfl, _, rfl, Dr, _, rfl, .inl (SqL.of (sa _ _ wDr15)), rfl, strs_flat risen, _, rfl, ?_⟩
        show if (if true = true then !inV (.str x) (risen.map V.str) else _) = true then _ else _
        rw [if_pos rfl, inV_str]
        by_cases c : x ∈ risen
        · rw [decide_eq_true c]
          exact iteF (no _ (Same.refl _) (decide_eq_false fun z => z c))
        · rw [decide_eq_false c]
          exact iteT ⟨_, rfl, yes _ (Same.refl _) (decide_eq_true c)⟩
      have B16 := B15.same s16
      have npon : on ≠ p := ((B9.same (s911.trans s12)).ne nOn).symm
      have npoff : off ≠ p := ((B9.same ((s911.trans s12).trans sy1)).ne nOff).symm
      have npd : Dd ≠ p := ((B9.same s911).ne nDd).symm
      have keep16 : ∀ {a : Addr} {xs : List Str}, SAt H13 a xs → a ≠ p → SAt H16 a xs := fun e ne => s16 _ _ (keep15 e ne)
      have k816 : Kp p H8 H16 := ((((k9.same sA).same s14).trans k15).same s16)
      have hF16 : LF K H16 d us := (((hF9.same sA).same s14).keepB k15 B14).same s16
      have wDd16 : H16 Dd = some (.lst dxs) := s16 _ _ (k15 _ _ (s14 _ _ (sB _ _ wDd)) npd)
      have pDd16 : PrH H16 dxs es := (((pDd.same sB).same s14).keep k15 B14.notTup).same s16
      -- a word behind the first if
      refine ⟨fun σ H' => Bag (n + 10 + 60 * i + 20) H' p ∧ Kp p H H' ∧ LF K H' d us ∧ SAt H' w6 words ∧ ∃ (a1 a2 a3 a4 : Addr) (h s o l : List Str) (y7 y8 y9 y10 y11 y12 y13 y14 y15 y16 y17 y18 y19 : Option V), SAt H' a1 h ∧ SAt H' a2 s ∧ SAt H' a3 o ∧ SAt H' a4 l ∧ a1 ≠ p ∧ a2 ≠ p ∧ a3 ≠ p ∧ a4 ≠ p ∧ Fits us ⟨h, s, o, l⟩ ∧ (s.Nodup ∧ Rise h) ∧
        σ = [some (.ref p), some (.ref d), some (.ref a1), some (.ref a2), some (.ref a3), some (.ref a4), some (.ref w6), y7, y8, y9, y10, y11, y12, y13, y14, y15, y16, y17, y18, y19], ?_, ?_⟩
-- G4 BEGIN
      · refine ⟨fun b H' => Same H16 H' ∧ (b = true → es.any (lackB us) = false ∧ ¬ Clash es ∧ ¬ Knotted (wt us) (more.filter fun x => decide (x ∉ risen))), ?_, ?_⟩
        · refine ⟨_, rfl, _, rfl, d, Dd, us, dxs, es, rfl, hF16, SqL.of wDd16, pDd16, hC.wd, by omega, fun Ha sa => ⟨_, rfl, ?_⟩⟩
          cases hlk : es.any (lackB us) with
          | true => exact iteF ⟨sa, fun z => Bool.noConfusion z⟩
          | false =>
            refine iteT ⟨_, rfl, Dd, dxs, es, rfl, SqL.of (sa _ _ wDd16), pDd16.same sa, eok, by omega, fun v Hb sb hv => ⟨rfl, _, rfl, ?_⟩⟩
            have sab := sa.trans sb
            rcases hv with ⟨rfl, hncl⟩ | ⟨z, rfl, _⟩
            · refine iteT ⟨_, rfl, _, rfl, d, Ds, us, _, rfl, hF16.same sab, sab _ _ wDs, Nat.le_trans (List.length_filter_le _ _) mlen, fun x hx => ((mm x).mp (List.mem_filter.mp hx).1).1, fun left Dk Hc sc nDk wk lok hleft => ⟨by show 0 ≤ sizeLine; decide, fun e ne => ?_⟩⟩
              generalize hEe : upd Hc e _ = He
              have we : He e = some (.lst (([] : List Str).map V.str)) := new_at hEe
              have se := new_same hEe ne
              refine eqD_strsL (SqL.of (se _ _ wk)) (SqL.of we) lok (fun y hy => nomatch hy) ⟨_, rfl, (sab.trans sc).trans se, fun z => ⟨rfl, hncl, hleft.mp (of_decide_eq_true z)⟩⟩
            · exact iteF ⟨sab, fun z => Bool.noConfusion z⟩
        · rintro b H17 ⟨s17, hb⟩
          have B17 := B16.same s17
          have keep17 : ∀ {a : Addr} {xs : List Str}, SAt H13 a xs → a ≠ p → SAt H17 a xs := fun e ne => s17 _ _ (keep16 e ne)
          have k817 := k816.same s17
          have w1t := keep17 w1' np1
          have w2t := keep17 w2' np2
          have w3t := keep17 w3' np3
          have w4t := keep17 w4' np4
          have wwt := keep17 ww13 npw
          cases b with
          | false =>
            refine iteF ⟨B17.le (by omega), k8.trans k817, hF16.same s17, wwt, a1, a2, a3, a4, h, s, o, l, _, _, _, _, _, _, _, _, _, _, _, _, _, w1t, w2t, w3t, w4t, np1, np2, np3, np4, hfit, snd, rfl⟩
          | true =>
            obtain ⟨hlk, hncl, hnk⟩ := hb rfl
            refine iteT ⟨_, rfl, _, rfl, by show 2 ≤ sizeLine; decide, fun t3 nt3 => ?_⟩
            generalize hE18 : upd H17 t3 _ = H18
            have wt3 := new_at hE18
            have s18 := new_same hE18 nt3
            refine ⟨t3, _, rfl, SqT.of wt3, rfl, _, _, rfl, _, _, rfl, rfl, ?_⟩
            have wOn18 : SAt H18 on ons := s18 _ _ (keep17 wOn13 npon)
            have wOff18 : SAt H18 off offs := s18 _ _ (keep17 wOff13 npoff)
            have onl : ons.length ≤ 32 := by
              rw [← hons]
              unfold waysL
              rw [List.length_map]
              exact Nat.le_trans (List.length_filter_le _ _) ewl
            have offl : offs.length ≤ 32 := by
              rw [← hoffs]
              unfold waysL
              rw [List.length_map]
              exact Nat.le_trans (List.length_filter_le _ _) ewl
            have hboth : ∀ x, x ∈ ons ++ offs ↔ ¬ ((x, onS) ∉ es ∧ (x, offS) ∉ es) := fun x => by
              rw [List.mem_append, onm, offm]
              exact ⟨fun z y => z.elim y.1 y.2, fun z => Classical.byContradiction fun y => z ⟨fun a => y (.inl a), fun a => y (.inr a)⟩⟩
            have w3u := s18 _ _ w3t
            have w4u := s18 _ _ w4t
            -- owed, lost
            refine ⟨_, rfl, a3, rfl, ⟨_, SqL.of w3u⟩, fun Do nDo => flt (K := K) (fun x => decide ((x, onS) ∉ es ∧ (x, offS) ∉ es)) nDo w3u (Nat.le_trans (lenOf m5 ho') (by decide)) (fun x Ha P hx sa yes no => ?_) (fun H19 s19 wDo => ?_)⟩
            · refine ⟨rfl, _, rfl, _, rfl, _, rfl, on, off, _, _, rfl, rfl, sa _ _ wOn18, sa _ _ wOff18, by rw [List.length_map, List.length_map]; exact Nat.le_of_lt (small1000 (by omega)), fun tc ntc => ?_⟩
              rw [← List.map_append]
              generalize hEc : upd Ha tc _ = Hc
              have wc := new_at hEc
              have sc := new_same hEc ntc
              refine ⟨tc, _, rfl, .inl (SqL.of wc), rfl, strs_flat (ons ++ offs), _, rfl, ?_⟩
              show if (if true = true then !inV (.str x) ((ons ++ offs).map V.str) else _) = true then _ else _
              rw [if_pos rfl, inV_str]
              by_cases c : x ∈ ons ++ offs
              · rw [decide_eq_true c]
                exact iteF (no _ sc (decide_eq_false ((hboth x).mp c)))
              · rw [decide_eq_false c]
                exact iteT ⟨_, rfl, yes _ sc (decide_eq_true (Classical.byContradiction fun z => c ((hboth x).mpr z)))⟩
            have w4v := s19 _ _ w4u
            refine ⟨_, rfl, a4, rfl, ⟨_, SqL.of w4v⟩, fun Dl nDl => flt (K := K) (fun x => decide ((x, onS) ∉ es ∧ (x, offS) ∉ es)) nDl w4v (Nat.le_trans (lenOf m2 hl') (by decide)) (fun x Ha P hx sa yes no => ?_) (fun H20 s20 wDl => ?_)⟩
            · refine ⟨rfl, _, rfl, _, rfl, _, rfl, on, off, _, _, rfl, rfl, sa _ _ (s19 _ _ wOn18), sa _ _ (s19 _ _ wOff18), by rw [List.length_map, List.length_map]; exact Nat.le_of_lt (small1000 (by omega)), fun tc ntc => ?_⟩
              rw [← List.map_append]
              generalize hEc : upd Ha tc _ = Hc
              have wc := new_at hEc
              have sc := new_same hEc ntc
              refine ⟨tc, _, rfl, .inl (SqL.of wc), rfl, strs_flat (ons ++ offs), _, rfl, ?_⟩
              show if (if true = true then !inV (.str x) ((ons ++ offs).map V.str) else _) = true then _ else _
              rw [if_pos rfl, inV_str]
              by_cases c : x ∈ ons ++ offs
              · rw [decide_eq_true c]
                exact iteF (no _ sc (decide_eq_false ((hboth x).mp c)))
              · rw [decide_eq_false c]
                exact iteT ⟨_, rfl, yes _ sc (decide_eq_true (Classical.byContradiction fun z => c ((hboth x).mpr z)))⟩
            have s1720 := (s18.trans s19).trans s20
            have B18 := B17.same s18
            have npo : Do ≠ p := (B18.ne nDo).symm
            have npl : Dl ≠ p := ((B18.same s19).ne nDl).symm
            have fit' := fits_on hfit hC (fun x hx u hu n hn => lack_none hlk hx hu hn) hncl mm mnd (fun x hx => (rsub x hx).1) hnk
            exact ⟨(B17.same s1720).le (by omega), (k8.trans k817).same s1720, (hF16.same s17).same s1720, s1720 _ _ wwt, Dm, Dr, Do, Dl, more, risen, _, _, _, _, _, _, _, _, _, _, _, _, _, _, _, s1720 _ _ (s17 _ _ (s16 _ _ wDm15)), s1720 _ _ (s17 _ _ (s16 _ _ wDr15)), s20 _ _ wDo, wDl, npm, npr, npo, npl, fit', ⟨rnd, mrise⟩, rfl⟩
-- G4 END
-- G5 BEGIN
      · clear hfit f1 f2 f3 f4 f5 m1 m2 m3 m4 m5 m6 hh hs' ho' hl' hin w1 w2 w3 w4 np1 np2 np3 np4 snd w1' w2' w3' w4' keep16 k816 hF16 wDd16 pDd16 keep15
        rintro σ H17 ⟨B17, k17, hF17, ww17, a1, a2, a3, a4, h, s, o, l, y7, y8, y9, y10, y11, y12, y13, y14, y15, y16, y17, y18, y19, w1, w2, w3, w4, np1, np2, np3, np4, hfit, snd, rfl⟩
        obtain ⟨f1, f2, f3, f4, f5⟩ := id hfit
        have hin : ∀ x ∈ h ++ s ++ o ++ l, x ∈ us.map (·.1) := f1
        obtain ⟨m1, m2, m3⟩ := List.nodup_append.mp f2
        obtain ⟨m4, m5, m6⟩ := List.nodup_append.mp m1
        have hh : ∀ x ∈ h, x ∈ us.map (·.1) := fun x hx => hin x (by simp only [List.mem_append]; exact .inl (.inl (.inl hx)))
        have ho' : ∀ x ∈ o, x ∈ us.map (·.1) := fun x hx => hin x (by simp only [List.mem_append]; exact .inl (.inr hx))
        have hl' : ∀ x ∈ l, x ∈ us.map (·.1) := fun x hx => hin x (by simp only [List.mem_append]; exact .inr hx)
        have hlen : h.length ≤ 16 := lenOf m4 hh
        have olen : o.length ≤ 16 := lenOf m5 ho'
        have llen : l.length ≤ 16 := lenOf m2 hl'
        -- if hoped != [] and take(bag, 3) == 0
        refine ⟨fun b H' => Kp p H17 H' ∧ Bag (n + 10 + 60 * i + 21) H' p ∧ (b = true → h ≠ []), ?_, ?_⟩
        · refine ⟨_, rfl, by show 0 ≤ sizeLine; decide, fun e ne => ?_⟩
          generalize hEe : upd H17 e _ = He
          have we : He e = some (.lst (([] : List Str).map V.str)) := new_at hEe
          have se := new_same hEe ne
          refine neD_strs (SqL.of (se _ _ w1)) (SqL.of we) (fun x hx => (hN.nm x (hh x hx)).ok) (fun y hy => nomatch hy) ⟨_, rfl, ?_⟩
          by_cases c : h = []
          · rw [decide_eq_true c]
            exact iteF ⟨Kp.of se, (B17.same se).le (by omega), fun z => Bool.noConfusion z⟩
          · rw [decide_eq_false c]
            refine iteT ⟨_, rfl, ?_⟩
            refine take_of (z := 3) (B17.same se) (by decide) (by decide) (by omega) fun rb Hb rb0 rb1 Bb kb => ?_
            exact ⟨rfl, _, rfl, (Kp.of se).trans kb, Bb, fun _ => c⟩
        · rintro b H18 ⟨k18, B18, hb⟩
          have hF18 := hF17.keepB k18 B17
          have ww18 : SAt H18 w6 words := k18 _ _ ww17 npw
          have w1' : SAt H18 a1 h := k18 _ _ w1 np1
          have w2' : SAt H18 a2 s := k18 _ _ w2 np2
          have w3' : SAt H18 a3 o := k18 _ _ w3 np3
          have w4' : SAt H18 a4 l := k18 _ _ w4 np4
          cases b with
          | false => exact iteF ⟨B18.le (by omega), k17.trans k18, hF18, ww18, a1, a2, a3, a4, h, s, o, l, _, _, _, _, _, _, _, _, _, _, _, _, _, w1', w2', w3', w4', np1, np2, np3, np4, hfit, snd, rfl⟩
          | true =>
            have hne := hb rfl
            have hpos := List.length_pos_iff.mpr hne
            -- fallen
            refine iteT ⟨_, rfl, _, rfl, _, rfl, a1, _, rfl, .inl (SqL.of w1'), ?_⟩
            refine take_of (z := ((h.map V.str).length : Int)) B18 (by rw [List.length_map]; omega) (by rw [List.length_map]; omega) (by omega) fun rc H19 rc0 rc1 B19 k19 => ?_
            rw [List.length_map] at rc1
            obtain ⟨fallen, hfallen, efallen⟩ := menu_str (zs := h) rc0 rc1
            refine ⟨a1, _, _, _, rfl, rfl, SqL.of (k19 _ _ w1' np1), efallen, ?_⟩
            have hfm := hh fallen hfallen
            have hF19 := hF18.keepB k19 B18
            -- down
            refine ⟨_, rfl, _, rfl, by show 2 ≤ sizeLine; decide, fun t1 nt1 => ?_⟩
            generalize hE20 : upd H19 t1 _ = H20
            have wt1 := new_at hE20
            have s20 := new_same hE20 nt1
            refine ⟨by show 1 ≤ sizeLine; decide, fun l1 nl1 => ?_⟩
            generalize hE21 : upd H20 l1 _ = H21
            have wl1 := new_at hE21
            have s21 := new_same hE21 nl1
            have s1921 := s20.trans s21
            have wd1 : ∀ e ∈ [(fallen, offS)], WD us e := fun e he => by rw [List.mem_singleton.mp he]; exact ⟨hfm, .inr rfl⟩
            refine ⟨d, l1, us, [.ref t1], [(fallen, offS)], rfl, hF19.same s1921, hB, SqL.of wl1, .cons (s21 _ _ wt1) .nil, wd1, by show 1 ≤ 40; decide, fun De exs es1 H22 nDe s22 wDe pDe dn1 dm1 => ?_⟩
            obtain ⟨fs, hfs⟩ : ∃ fs, srtP es1 = fs := ⟨_, rfl⟩
            rw [hfs] at pDe
            have fm : ∀ e, e ∈ fs ↔ Reach us [(fallen, offS)] e := fun e => by rw [← hfs, srtP_mem]; exact dm1 e
            have hC1 : Cl us fs := ⟨fun e he => reach_wd wd1 ((fm e).mp he), fun a ha b hb => (fm b).mpr (.step ((fm a).mp ha) hb)⟩
            have fsl : fs.length ≤ 32 := by
              rw [← hfs, srtP_len]
              exact wd_few hN dn1 fun e he => reach_wd wd1 ((dm1 e).mp he)
            have fsn : fs.Nodup := by rw [← hfs]; exact (srtP_perm es1).nodup_iff.mpr dn1
            refine ⟨De, offS, exs, fs, rfl, SqL.of wDe, pDe, by omega, fun dw H23 ndw s23 wdw => ?_⟩
            obtain ⟨down, hdown⟩ : ∃ xs, waysL fs offS = xs := ⟨_, rfl⟩
            rw [hdown] at wdw
            have dwm : ∀ x, x ∈ down ↔ (x, offS) ∈ fs := fun x => by rw [← hdown]; exact waysL_mem
            have dwn : down.Nodup := by
              rw [← hdown]
              exact waysL_nodup fsn
            have dwl := lenOf dwn fun x hx => (hC1.wd _ ((dwm x).mp hx)).1
            have s1923 := (s1921.trans s22).trans s23
            have B23 := B19.same s1923
            have keep23 : ∀ {a : Addr} {xs : List Str}, SAt H18 a xs → a ≠ p → SAt H23 a xs := fun e ne => s1923 _ _ (k19 _ _ e ne)
            have w1a := keep23 w1' np1
            have w3a := keep23 w3' np3
            have w4a := keep23 w4' np4
            -- ring
            obtain ⟨u, hfu, hu⟩ := fu_of hfm hN.nd
            have hF23 := hF19.same s1923
            obtain ⟨kv23, hd23, htb⟩ := hF23.ex
            obtain ⟨v1, hv1, tt1, q1, q2, q3, q4, g1, rfl, wq0, wq1, _⟩ := htb.get hN.nd (fallen, u) hu
            have hnl : u.needs.length ≤ 100 := (hF23.few _ hu).1
            refine ⟨_, rfl, _, rfl, d, .ref tt1, rfl, by rw [← hv1]; exact DGet.k (k := Sum.inr fallen) hd23, tt1, _, _, _, rfl, rfl, wq0, at1, q1, rfl, ⟨_, wq1⟩, fun D2 nD2 => ?_⟩
            refine lc_tup (xs := u.needs.map V.str) (fun j H' => Same H23 H' ∧ H' D2 = some (.lst (((u.needs.take j).map fun x => decide (x ∈ down)).map V.bl))) ⟨same_upd nD2, upd_same⟩ (fun j H' _ h => tup_same h.1 wq1) ?_ ?_
            · rintro j x Ha hj ⟨sa, wa⟩
              obtain ⟨z, hz, rfl⟩ := map_str_get hj
              refine ⟨rfl, yes_of (iteT ⟨_, rfl, _, rfl, dw, _, rfl, .inl (SqL.of (sa _ _ wdw)), rfl, strs_flat down, ?_⟩)⟩
              show ∃ acc, Ha D2 = some (.lst acc) ∧ _
              refine ⟨_, wa, ?_, Same.own (q := D2) sa (mut_keep rfl) nD2, ?_⟩
              · rw [List.length_map, List.length_map]
                exact Nat.lt_of_le_of_lt (List.length_take_le' ..) (small1000 (by omega))
              · rw [upd_same, take_snoc hz, List.map_append, List.map_append]
                show some (HO.lst (_ ++ [V.bl (inV (.str z) (down.map V.str))])) = _
                rw [inV_str]
                rfl
            rintro H24 ⟨s24, w24⟩
            rw [List.length_map, List.take_length] at w24
            refine ⟨D2, _, rfl, .inl (SqL.of w24), rfl, bls_flat _, ?_⟩
            obtain ⟨ring, hring⟩ : ∃ ring, inV (.bl true) ((u.needs.map fun x => decide (x ∈ down)).map V.bl) = ring := ⟨_, rfl⟩
            rw [hring]
            have hrg : ring = true ↔ ∃ z ∈ u.needs, (z, offS) ∈ fs := by
              rw [← hring, inV_bl, List.any_map, List.any_eq_true]
              exact ⟨fun ⟨z, hz, e⟩ => ⟨z, hz, (dwm z).mp (of_decide_eq_true e)⟩, fun ⟨z, hz, e⟩ => ⟨z, hz, decide_eq_true ((dwm z).mpr e)⟩⟩
            have wdw24 : SAt H24 dw down := s24 _ _ wdw
            have w1b : SAt H24 a1 h := s24 _ _ w1a
            have w3b : SAt H24 a3 o := s24 _ _ w3a
            have w4b : SAt H24 a4 l := s24 _ _ w4a
            -- gone
            refine ⟨_, rfl, dw, rfl, ⟨_, SqL.of wdw24⟩, fun Dg nDg => flt (K := K) (fun x => decide (x ∈ h ++ o ∧ (ring = true ∨ x ≠ fallen))) nDg wdw24 (by omega) (fun x Ha P hx sa yes no => ?_) (fun H25 s25 wDg => ?_)⟩
            · refine ⟨rfl, _, rfl, _, rfl, _, rfl, a1, a3, _, _, rfl, rfl, sa _ _ w1b, sa _ _ w3b, by rw [List.length_map, List.length_map]; exact Nat.le_of_lt (small1000 (by omega)), fun tc ntc => ?_⟩
              rw [← List.map_append]
              generalize hEc : upd Ha tc _ = Hc
              have wc := new_at hEc
              have sc := new_same hEc ntc
              refine ⟨tc, _, rfl, .inl (SqL.of wc), rfl, strs_flat (h ++ o), _, rfl, ?_⟩
              show if inV (.str x) ((h ++ o).map V.str) = true then _ else _
              rw [inV_str]
              by_cases c : x ∈ h ++ o
              · rw [decide_eq_true c]
                refine iteT ⟨_, rfl, ring, rfl, ?_⟩
                cases hrt : ring with
                | true => exact iteT (iteT ⟨_, rfl, yes _ sc (decide_eq_true ⟨c, .inl hrt⟩)⟩)
                | false =>
                  refine iteF ⟨_, rfl, _, rfl, rfl, _, rfl, ?_⟩
                  rw [UW.dec_str]
                  by_cases c2 : x = fallen
                  · rw [decide_eq_true c2]
                    exact iteF (no _ sc (decide_eq_false fun z => z.2.elim (fun y => by rw [hrt] at y; cases y) fun y => y c2))
                  · rw [decide_eq_false c2]
                    exact iteT ⟨_, rfl, yes _ sc (decide_eq_true ⟨c, .inr c2⟩)⟩
              · rw [decide_eq_false c]
                exact iteF (no _ sc (decide_eq_false fun z => c z.1))
            obtain ⟨gone, hgone⟩ : ∃ xs, down.filter (fun x => decide (x ∈ h ++ o ∧ (ring = true ∨ x ≠ fallen))) = xs := ⟨_, rfl⟩
            rw [hgone] at wDg
            have gm : ∀ x, x ∈ gone ↔ (x, offS) ∈ fs ∧ x ∈ h ++ o ∧ (ring = true ∨ x ≠ fallen) := fun x => by
              rw [← hgone, List.mem_filter, dwm]
              exact and_congr_right fun _ => ⟨fun z => of_decide_eq_true z, fun z => decide_eq_true z⟩
            have gnd : gone.Nodup := by rw [← hgone]; exact dwn.filter _
            have glen : gone.length ≤ 16 := by
              rw [← hgone]
              exact Nat.le_trans (List.length_filter_le _ _) dwl
            have w4c : SAt H25 a4 l := s25 _ _ w4b
            -- lost
            refine ⟨_, rfl, _, rfl, Dg, rfl, ⟨_, SqL.of wDg⟩, fun Dx nDx => flt (K := K) (fun x => decide (x ∉ l)) nDx wDg (by omega) (fun x Ha P hx sa yes no => ?_) (fun H26 s26 wDx => ?_)⟩
            · refine ⟨rfl, _, rfl, _, rfl, a4, _, rfl, .inl (SqL.of (sa _ _ w4c)), rfl, strs_flat l, _, rfl, ?_⟩
              show if (if true = true then !inV (.str x) (l.map V.str) else _) = true then _ else _
              rw [if_pos rfl, inV_str]
              by_cases c : x ∈ l
              · rw [decide_eq_true c]
                exact iteF (no _ (Same.refl _) (decide_eq_false fun z => z c))
              · rw [decide_eq_false c]
                exact iteT ⟨_, rfl, yes _ (Same.refl _) (decide_eq_true c)⟩
            obtain ⟨fresh, hfresh⟩ : ∃ xs, gone.filter (fun x => decide (x ∉ l)) = xs := ⟨_, rfl⟩
            rw [hfresh] at wDx
            have frl : fresh.length ≤ 16 := by
              rw [← hfresh]
              exact Nat.le_trans (List.length_filter_le _ _) glen
            refine ⟨a4, Dx, _, _, rfl, rfl, s26 _ _ w4c, wDx, by rw [List.length_map, List.length_map]; exact Nat.le_of_lt (small1000 (by omega)), fun c1 nc1 => ?_⟩
            rw [← List.map_append]
            generalize hE27 : upd H26 c1 _ = H27
            have wc1 := new_at hE27
            have s27 := new_same hE27 nc1
            refine ⟨c1, l ++ fresh, rfl, SqL.of wc1, by rw [List.length_append]; omega, fun ys q5 hy hs nq5 => ?_⟩
            obtain rfl := srt_of hy hs
            generalize hE28 : upd H27 q5 _ = H28
            have wq5 := new_at hE28
            have s28 := new_same hE28 nq5
            have s2428 := ((s25.trans s26).trans s27).trans s28
            have w3c : SAt H28 a3 o := s2428 _ _ w3b
            have wdw28 : SAt H28 dw down := s2428 _ _ wdw24
            -- owed
            refine ⟨_, rfl, a3, rfl, ⟨_, SqL.of w3c⟩, fun Dy nDy => flt (K := K) (fun x => decide (x ∉ down)) nDy w3c (by omega) (fun x Ha P hx sa yes no => ?_) (fun H29 s29 wDy => ?_)⟩
            · refine ⟨rfl, _, rfl, _, rfl, dw, _, rfl, .inl (SqL.of (sa _ _ wdw28)), rfl, strs_flat down, _, rfl, ?_⟩
              show if (if true = true then !inV (.str x) (down.map V.str) else _) = true then _ else _
              rw [if_pos rfl, inV_str]
              by_cases c : x ∈ down
              · rw [decide_eq_true c]
                exact iteF (no _ (Same.refl _) (decide_eq_false fun z => z c))
              · rw [decide_eq_false c]
                exact iteT ⟨_, rfl, yes _ (Same.refl _) (decide_eq_true c)⟩
            obtain ⟨kept, hkept⟩ : ∃ xs, o.filter (fun x => decide (x ∉ down)) = xs := ⟨_, rfl⟩
            rw [hkept] at wDy
            have kpl : kept.length ≤ 16 := by
              rw [← hkept]
              exact Nat.le_trans (List.length_filter_le _ _) olen
            refine ⟨_, rfl, by show 1 ≤ sizeLine; decide, fun lf nlf => ?_⟩
            generalize hE30 : upd H29 lf _ = H30
            have wlf := new_at hE30
            have s30 := new_same hE30 nlf
            unfold tNoPart
            obtain ⟨one, hone⟩ : ∃ one : List Str, (if ring = true then [] else [fallen]) = one := ⟨_, rfl⟩
            have cut : cutV [V.str fallen] none (some (if (!ring) = true then 1 else 0)) = one.map V.str := by
              rw [← hone]
              cases ring <;> rfl
            have onl : one.length ≤ 1 := by
              rw [← hone]
              cases ring
              · exact Nat.le_refl _
              · exact Nat.zero_le _
            have onem : ∀ x, x ∈ one ↔ ring = false ∧ x = fallen := fun x => by
              rw [← hone]
              cases ring
              · exact ⟨fun z => ⟨rfl, List.mem_singleton.mp z⟩, fun z => List.mem_singleton.mpr z.2⟩
              · exact ⟨fun z => (nomatch z), fun z => Bool.noConfusion z.1⟩
            refine ⟨_, rfl, ring, rfl, .inr ⟨!ring, rfl, _, rfl, lf, _, rfl, SqL.of wlf, fun ps nps => ?_⟩⟩
            rw [cut]
            generalize hE31 : upd H30 ps _ = H31
            have wps := new_at hE31
            have s31 := new_same hE31 nps
            have s2931 := s30.trans s31
            refine ⟨Dy, ps, _, _, rfl, rfl, s2931 _ _ wDy, wps, by rw [List.length_map, List.length_map]; exact Nat.le_of_lt (small1000 (by omega)), fun c2 nc2 => ?_⟩
            rw [← List.map_append]
            generalize hE32 : upd H31 c2 _ = H32
            have wc2 := new_at hE32
            have s32 := new_same hE32 nc2
            refine ⟨c2, kept ++ one, rfl, SqL.of wc2, by rw [List.length_append]; omega, fun ys q6 hy hs nq6 => ?_⟩
            obtain rfl := srt_of hy hs
            generalize hE33 : upd H32 q6 _ = H33
            have wq6 := new_at hE33
            have s33 := new_same hE33 nq6
            have s2833 := ((s29.trans s2931).trans s32).trans s33
            have s2433 := s2428.trans s2833
            have w1d : SAt H33 a1 h := s2433 _ _ w1b
            have wdw33 : SAt H33 dw down := s2433 _ _ wdw24
            -- hoped
            refine ⟨_, rfl, a1, rfl, ⟨_, SqL.of w1d⟩, fun Dz nDz => flt (K := K) (fun x => decide (x ∉ down)) nDz w1d (by omega) (fun x Ha P hx sa yes no => ?_) (fun H34 s34 wDz => ?_)⟩
            · refine ⟨rfl, _, rfl, _, rfl, dw, _, rfl, .inl (SqL.of (sa _ _ wdw33)), rfl, strs_flat down, _, rfl, ?_⟩
              show if (if true = true then !inV (.str x) (down.map V.str) else _) = true then _ else _
              rw [if_pos rfl, inV_str]
              by_cases c : x ∈ down
              · rw [decide_eq_true c]
                exact iteF (no _ (Same.refl _) (decide_eq_false fun z => z c))
              · rw [decide_eq_false c]
                exact iteT ⟨_, rfl, yes _ (Same.refl _) (decide_eq_true c)⟩
            have s2334 : Same H23 H34 := s24.trans (s2433.trans s34)
            have B34 := B23.same s2334
            have npq5 : q5 ≠ p := ((B23.same (s24.trans ((s25.trans s26).trans s27))).ne nq5).symm
            have npq6 : q6 ≠ p := ((B23.same (s24.trans (s2428.trans ((s29.trans s2931).trans s32)))).ne nq6).symm
            have npz : Dz ≠ p := ((B23.same (s24.trans s2433)).ne nDz).symm
            have notdown : ∀ x, x ∉ down ↔ (x, offS) ∉ fs := fun x => not_congr (dwm x)
            have fit' : Fits us ⟨h.filter (fun x => decide (x ∉ down)), s, srt (kept ++ one), srt (l ++ fresh)⟩ := by
              refine fits_fall ring hfit hC1 hfallen ((fm _).mpr (.base (List.mem_singleton.mpr rfl))) hfu hrg (fun x => ?_) (m4.filter _) (fun x => ?_) (srt_nodup ?_) (fun x => ?_) (srt_nodup ?_)
              · rw [List.mem_filter, decide_eq_true_iff, notdown]
              · rw [srt_mem, List.mem_append, onem, ← hkept, List.mem_filter, decide_eq_true_iff, notdown]
              · refine List.nodup_append.mpr ⟨by rw [← hkept]; exact m5.filter _, ?_, fun x hx y hy e => ?_⟩
                · rw [← hone]
                  cases ring
                  · exact List.nodup_cons.mpr ⟨List.not_mem_nil, List.nodup_nil⟩
                  · exact List.nodup_nil
                · subst e
                  rw [← hkept] at hx
                  exact m6 x (((onem x).mp hy).2 ▸ hfallen) x (List.mem_filter.mp hx).1 rfl
              · rw [srt_mem, List.mem_append, ← hfresh, List.mem_filter, gm]
                refine ⟨fun z => z.imp id fun y => y.1, fun z => z.elim .inl fun y => ?_⟩
                by_cases c : x ∈ l
                · exact .inl c
                · exact .inr ⟨y, decide_eq_true c⟩
              · refine List.nodup_append.mpr ⟨m2, by rw [← hfresh]; exact gnd.filter _, fun x hx y hy e => ?_⟩
                subst e
                rw [← hfresh] at hy
                exact of_decide_eq_true (List.mem_filter.mp hy).2 hx
            exact ⟨B34.le (by omega), ((k17.trans k18).trans k19).same (s1923.trans s2334), hF23.same s2334, s2334 _ _ (keep23 ww18 npw), Dz, a2, q6, q5, _, s, _, _, _, _, _, _, _, _, _, _, _, _, _, _, _, wDz, s2334 _ _ (keep23 w2' np2), s34 _ _ wq6, s34 _ _ (s2833 _ _ wq5), npz, np2, npq6, npq5, fit', ⟨snd.1, snd.2.filter _⟩, rfl⟩
-- G5 END
    · rintro σ H8 ⟨B8, k8, hF8, ww8, a1, a2, a3, a4, h, s, o, l, y7, y8, y9, y10, y11, y12, y13, y14, y15, y16, y17, y18, y19, w1, w2, w3, w4, np1, np2, np3, np4, hfit, snd, rfl⟩
      -- stood
      refine ⟨_, rfl, w6, rfl, ⟨_, SqL.of ww8⟩, fun Dr nDr => fltB (K := K) (fun x => x ∈ s ∧ x ∈ h) (fun x => x ∈ s) B8 nDr ww8 npw (by omega) wnd (fun x Ha m P hx ka Bm hm yes no => ?_) (fun H9 stood k9 B9 wDr rnd rsub rmust => ?_)⟩
      · refine ⟨rfl, ?_⟩
        have w1a : SAt Ha a1 h := ka _ _ w1 np1
        have w2a : SAt Ha a2 s := ka _ _ w2 np2
        refine ⟨_, rfl, _, rfl, a2, _, rfl, .inl (SqL.of w2a), rfl, strs_flat s, _, rfl, ?_⟩
        show if inV (.str x) (s.map V.str) = true then _ else _
        rw [inV_str]
        by_cases c1 : x ∈ s
        · rw [decide_eq_true c1]
          refine iteT ⟨_, rfl, _, rfl, a1, _, rfl, .inl (SqL.of w1a), rfl, strs_flat h, _, rfl, ?_⟩
          show if inV (.str x) (h.map V.str) = true then _ else _
          rw [inV_str]
          by_cases c2 : x ∈ h
          · rw [decide_eq_true c2]
            exact iteT (iteT ⟨_, rfl, yes _ (Kp.refl _ _) (Bm.le (by omega)) c1⟩)
          · rw [decide_eq_false c2]
            refine iteF ⟨_, rfl, ?_⟩
            refine take_of (z := 2) Bm (by decide) (by decide) (by omega) fun rb Hb rb0 rb1 Bb kb => ?_
            refine ⟨rfl, _, rfl, ?_⟩
            refine ite2 (fun _ => ⟨_, rfl, yes _ kb Bb c1⟩) (fun _ => no _ kb Bb fun z => c2 z.2)
        · rw [decide_eq_false c1]
          exact iteF (no _ (Kp.refl _ _) (Bm.le (by omega)) fun z => c1 z.1)
      have npr : Dr ≠ p := (B8.ne nDr).symm
      refine ⟨_, rfl, _, rfl, _, rfl, _, rfl, by show 4 ≤ sizeLine; decide, fun t nt => ?_⟩
      generalize hE10 : upd H9 t _ = H10
      have wt := new_at hE10
      have s10 := new_same hE10 nt
      have hh : ∀ x ∈ h, x ∈ us.map (·.1) := fun x hx => hfit.1 x (by simp only [List.mem_append]; exact .inl (.inl (.inl hx)))
      have fit' : Fits us ⟨h, stood, o, l⟩ := fits_stood hfit (fun x hx => (rsub x hx).2) fun x hx hxs => rmust x ((wmem x).mpr (hh x hx)) ⟨hxs, hx⟩
      have k09 := k8.trans k9
      exact q t a1 Dr a3 a4 ⟨h, stood, o, l⟩ H10 ((B9.same s10).le (by omega)) (k09.same s10) ((hF8.keepB k9 B8).same s10) (k09.free nt (B9.ne nt).symm) wt (s10 _ _ (k9 _ _ w1 np1)) (s10 _ _ wDr) (s10 _ _ (k9 _ _ w3 np3)) (s10 _ _ (k9 _ _ w4 np4)) np1 npr np3 np4 fit' rnd snd.2

-- SPLIT
/-! ### rows of a plan: a name, a way, a cause -/
abbrev Row := Str × Str × Int
inductive TrH (H : Hp) : List V → List Row → Prop
  | nil : TrH H [] []
  | cons {t : Addr} {r : Row} {xs : List V} {rs : List Row} : H t = some (.tup [.str r.1, .str r.2.1, .int r.2.2]) → TrH H xs rs → TrH H (.ref t :: xs) (r :: rs)
section
variable {H H' : Hp} {xs ys : List V} {rs qs : List Row}
theorem TrH.same (h : TrH H xs rs) (s : Same H H') : TrH H' xs rs := by
  induction h with
  | nil => exact .nil
  | cons a _ ih => exact .cons (s _ _ a) ih
theorem TrH.keep {q : Addr} (h : TrH H xs rs) (k : Kp q H H') (n : NotTup H q) : TrH H' xs rs := by
  induction h with
  | nil => exact .nil
  | cons a _ ih => exact .cons (k _ _ a (n.ne a)) ih
theorem TrH.len (h : TrH H xs rs) : xs.length = rs.length := by
  induction h with
  | nil => rfl
  | cons _ _ ih => rw [List.length_cons, List.length_cons, ih]
theorem TrH.app (h : TrH H xs rs) (g : TrH H ys qs) : TrH H (xs ++ ys) (rs ++ qs) := by
  induction h with
  | nil => exact g
  | cons a _ ih => exact .cons a ih
theorem TrH.get {i : Nat} {x : V} (h : TrH H xs rs) (e : xs[i]? = some x) : ∃ t r, x = .ref t ∧ rs[i]? = some r ∧ H t = some (.tup [.str r.1, .str r.2.1, .int r.2.2]) := by
  induction h generalizing i with
  | nil => simp at e
  | @cons t r _ _ a _ ih =>
    cases i with
    | zero =>
      cases e
      exact ⟨t, r, rfl, rfl, a⟩
    | succ i => exact ih e
end
/-- a row without its cause -/
def bare (r : Row) : Str × Str := (r.1, r.2.1)
abbrev bares (rs : List Row) : List (Str × Str) := rs.map bare
abbrev pFs (n w d o : V) : List (Str × V) := [("name", n), ("way", w), ("demands", d), ("dropped", o)]
theorem made_same {H H' : Hp} {x dx C : Addr} (nx : H x = none) (ndx : H dx = none) (ne : dx ≠ x) (k : Kp x (upd (upd H dx (.own x)) x (.ins C dx [])) H') : Same H H' := fun c o e => by
  have cx : c ≠ x := ne_some e nx
  refine k c o ?_ cx
  rw [upd_ne cx, upd_ne (ne_some e ndx)]
  exact e
def sp_Plan_init (K : PySem.W.Frag) : Sp := fun vs H Q _ => ∃ (p dx : Addr) (v1 v2 v3 v4 : V), vs = [.ref p, v1, v2, v3, v4] ∧ H p = some (.ins (He.ga K "Plan") dx []) ∧
  ∀ H', H' p = some (.ins (He.ga K "Plan") dx (pFs v1 v2 v3 v4)) → Kp p H H' → Q .non H'
theorem ok_Plan_init (T : Txt K mg) : FnOk P w K mg base CX0 1 (He.fAd K ("Plan", some "__init__")) T.d_Plan_init ["self", "name", "way", "demands", "dropped"] (sp_Plan_init K) := by
  refine T.F_Plan_init.ok sc_Plan_init (fun vs H Q E h => ?_) (fun cdv A outer s H vs Q E hr h => ?_)
  · obtain ⟨p, dx, v1, v2, v3, v4, rfl, _⟩ := h
    rfl
  · obtain ⟨p, dx, v1, v2, v3, v4, rfl, hp, q⟩ := h
    refine ⟨_, PSs.nox (pss_cons (ps_fld (pv 0) (pv 1) rfl)
      (pss_cons (ps_fld (pv 0) (pv 2) rfl)
      (pss_cons (ps_fld (pv 0) (pv 3) rfl)
      (pss_one (ps_fld (pv 0) (pv 4) rfl))))), ?_⟩
    refine ⟨_, rfl, _, rfl, p, _, dx, [], rfl, hp, T.cl_Plan, T.na_Plan_name, (by show 0 < 1000; decide), ?_⟩
    refine ⟨_, rfl, _, rfl, p, _, dx, _, rfl, upd_same, T.cl_Plan, T.na_Plan_way, (by show 1 < 1000; decide), ?_⟩
    refine ⟨_, rfl, _, rfl, p, _, dx, _, rfl, upd_same, T.cl_Plan, T.na_Plan_demands, (by show 2 < 1000; decide), ?_⟩
    refine ⟨_, rfl, _, rfl, p, _, dx, _, rfl, upd_same, T.cl_Plan, T.na_Plan_dropped, (by show 3 < 1000; decide), ?_⟩
    refine q _ upd_same fun c o h n => ?_
    rw [upd_ne n, upd_ne n, upd_ne n, upd_ne n]
    exact h
/-- a plan stands at p; what it dropped at o -/
def PlanAt (K : PySem.W.Frag) (H : Hp) (p : Addr) (n w : Str) (rs : List Row) (o : Addr) : Prop := ∃ (dx d : Addr) (xs : List V), H p = some (.ins (He.ga K "Plan") dx (pFs (.str n) (.str w) (.ref d) (.ref o))) ∧ SqT K H d xs ∧ TrH H xs rs
theorem PlanAt.same {H H' : Hp} {p o : Addr} {n w : Str} {rs : List Row} (h : PlanAt K H p n w rs o) (s : Same H H') : PlanAt K H' p n w rs o := by
  obtain ⟨dx, d, xs, h0, h1, h2⟩ := h
  exact ⟨dx, d, xs, s _ _ h0, tup_same s h1, h2.same s⟩
def sp_Plan_len (K : PySem.W.Frag) : Sp := fun vs H Q _ => ∃ (p o : Addr) (n w : Str) (rs : List Row), vs = [.ref p] ∧ PlanAt K H p n w rs o ∧ Q (.int rs.length) H
theorem ok_Plan_len (T : Txt K mg) : FnOk P w K mg base CX0 1 (He.fAd K ("Plan", some "__len__")) T.d_Plan_len ["self"] (sp_Plan_len K) := by
  refine T.F_Plan_len.ok sc_Plan_len (fun vs H Q E h => ?_) (fun cdv A outer s H vs Q E hr h => ?_)
  · obtain ⟨p, o, n, w, rs, rfl, _⟩ := h
    rfl
  · obtain ⟨p, o, n, w, rs, rfl, hP, q⟩ := h
    refine ⟨_, PSs.nox (pss_one (ps_ret (pe_callB (id := "len")  call_len_seq (by rfl) T.n_len (by decide +kernel) (pa_cons (pe_fld (pv 0) rfl) pa_nil)))), ?_⟩
    obtain ⟨dx, d, xs, h0, h1, h2⟩ := hP
    refine ⟨_, rfl, p, _, dx, _, _, rfl, h0, T.cl_Plan, T.na_Plan_demands, rfl, d, _, rfl, .inr h1, ?_⟩
    rw [h2.len]
    exact q
theorem pair3_put {H1 H2 : Hp} {D t : Addr} {xs : List V} {ds : List (Str × Str)} {a b : Str} (s : Same H1 H2) (nD : H1 D = none) (w : H2 D = some (.lst xs)) (p : PrH H2 xs ds) (n : H2 t = none) :
    Same H1 (upd (upd H2 t (.tup [.str a, .str b])) D (.lst (xs ++ [.ref t]))) ∧ ∃ ys, upd (upd H2 t (.tup [.str a, .str b])) D (.lst (xs ++ [.ref t])) D = some (.lst ys) ∧ PrH (upd (upd H2 t (.tup [.str a, .str b])) D (.lst (xs ++ [.ref t]))) ys (ds ++ [(a, b)]) := pair_put s nD w p n
def sp_without_causes (K : PySem.W.Frag) : Sp := fun vs H Q _ => ∃ (l : Addr) (xs : List V) (rs : List Row), vs = [.ref l] ∧ SqL K H l xs ∧ TrH H xs rs ∧ rs.length ≤ 900 ∧
  ∀ D ys H', H D = none → Same H H' → H' D = some (.lst ys) → PrH H' ys (bares rs) → Q (.ref D) H'
theorem ok_without_causes (T : Txt K mg) : FnOk P w K mg base CX0 1 (He.fAd K ("without_causes", none)) T.d_without_causes ["demands"] (sp_without_causes K) := by
  refine T.F_without_causes.ok sc_without_causes (fun vs H Q E h => ?_) (fun cdv A outer s H vs Q E hr h => ?_)
  · obtain ⟨l, xs, rs, rfl, _⟩ := h
    rfl
  · obtain ⟨l, xs, rs, rfl, hl, hT, few, q⟩ := h
    refine ⟨_, PSs.nox (pss_one (ps_ret (pe_lc (own := [("name", 1), ("way", 2), ("cause", 3)]) (g := gTup K 3 (gCons (gName 1) (gCons (gName 2) (gCons (gName 3) gNil)))) (by rfl) sc_without_causes.nd (pi_list (pv 0)) (blkOk_by (own := [("name", 1), ("way", 2), ("cause", 3)]) (N := N_without_causes) (sc := defScope s_without_causes) (by decide +kernel)) (fun _ _ _ _ _ => by exact (pg_tup rfl (pgs_cons (pg_name (i := 1) sc_without_causes.nd rfl (Or.inl rfl)) (pgs_cons (pg_name (i := 2) sc_without_causes.nd rfl (Or.inl rfl)) (pgs_cons (pg_name (i := 3) sc_without_causes.nd rfl (Or.inl rfl)) pgs_nil))))) (fun _ _ _ _ _ => pts_nil) (fun _ _ _ _ _ => (pe_tup (pa_cons (pv 1) (pa_cons (pv 2) pa_nil))))))), ?_⟩
    refine ⟨_, rfl, l, rfl, ⟨_, hl⟩, fun D nD => lc_list (K := K) (a := l) (xs := xs) (fun i H' => Same H H' ∧ ∃ ys, H' D = some (.lst ys) ∧ PrH H' ys (bares (rs.take i))) ⟨same_upd nD, [], upd_same, .nil⟩ (fun i H' _ h => SqL.ext hl h.1) ?_ ?_⟩
    · rintro i x H1 hi ⟨s1, ys, w1, p1⟩
      obtain ⟨t, r, rfl, he, ht⟩ := hT.get hi
      refine ⟨t, _, rfl, SqT.of (s1 _ _ ht), rfl, _, _, rfl, _, _, rfl, _, _, rfl, rfl, rfl, yes_of (iteT ⟨_, rfl, _, rfl, by show 2 ≤ sizeLine; decide, fun t2 n2 => ⟨ys, same_upd n2 _ _ w1, ?_, ?_⟩⟩)⟩
      · rw [p1.len, List.length_map]
        exact Nat.lt_of_le_of_lt (List.length_take_le' ..) (small1000 (by omega))
      · rw [take_snoc he]
        show _ ∧ ∃ ys, _ ∧ PrH _ ys ((rs.take i ++ [r]).map bare)
        rw [List.map_append]
        exact pair_put s1 nD w1 p1 n2
    · rintro H1 ⟨s1, ys, w1, p1⟩
      rw [hT.len, List.take_length] at p1
      exact q D ys H1 nD s1 w1 p1
/-! ### all that follows from one more, put behind the others -/
/-- gs: the rows rs, one more, and all that follows from it, each with its cause -/
structure Grown (us : List (Str × UF)) (rs : List Row) (r : Row) (gs : List Row) : Prop where
  head : ∃ ext, gs = rs ++ r :: ext
  nd : (bares gs).Nodup
  wd : ∀ d ∈ bares gs, WD us d
  closed : ∀ (i : Nat) (g : Row), rs.length ≤ i → gs[i]? = some g → ∀ d ∈ ao us (bare g), d ∈ bares gs
  caused : ∀ (i : Nat) (g : Row), rs.length < i → gs[i]? = some g → ∃ (j : Nat) (c : Row), rs.length ≤ j ∧ j < i ∧ g.2.2 = j ∧ gs[j]? = some c ∧ bare g ∈ ao us (bare c)
/-- the same, while it is found: up to at -/
structure Growing (us : List (Str × UF)) (rs : List Row) (r : Row) (at_ : Nat) (gs : List Row) : Prop where
  head : ∃ ext, gs = rs ++ r :: ext
  nd : (bares gs).Nodup
  wd : ∀ d ∈ bares gs, WD us d
  lo : rs.length ≤ at_
  hi : at_ ≤ gs.length
  closed : ∀ (i : Nat) (g : Row), rs.length ≤ i → i < at_ → gs[i]? = some g → ∀ d ∈ ao us (bare g), d ∈ bares gs
  caused : ∀ (i : Nat) (g : Row), rs.length < i → gs[i]? = some g → ∃ (j : Nat) (c : Row), rs.length ≤ j ∧ j < i ∧ g.2.2 = j ∧ gs[j]? = some c ∧ bare g ∈ ao us (bare c)
theorem ned_nodup {us : List (Str × UF)} (h : ∀ p ∈ us, p.2.needs.Nodup) (hN : (us.map (·.1)).Nodup) (x : Str) : (ned us x).Nodup := by
  unfold ned
  cases e : fu us x with
  | none => exact List.nodup_nil
  | some u =>
    have hx : x ∈ us.map (·.1) := by
      unfold fu at e
      cases f : us.find? (fun p => decide (p.1 = x)) with
      | none => rw [f] at e; cases e
      | some p => exact List.mem_map.mpr ⟨p, List.mem_of_find?_eq_some f, of_decide_eq_true (List.find?_some (p := fun p : Str × UF => decide (p.1 = x)) f)⟩
    obtain ⟨u', h1, h2⟩ := fu_of hx hN
    rw [e] at h1
    cases h1
    exact (h _ h2).filter _
theorem with_nodup {xs : List Str} {y : Str} (h : xs.Nodup) : (xs.map (·, y)).Nodup := List.pairwise_map.mpr (List.Pairwise.imp (fun ne e => ne (congrArg Prod.fst e)) h)
theorem ao_nodup {us : List (Str × UF)} (h : ∀ p ∈ us, p.2.needs.Nodup) (hN : (us.map (·.1)).Nodup) (d : Str × Str) : (ao us d).Nodup := by
  unfold ao
  split
  · exact with_nodup ((srt_nodup hN).filter _)
  · refine (srtP_perm _).nodup_iff.mpr (List.nodup_append.mpr ⟨with_nodup (ned_nodup h hN _), with_nodup ((srt_nodup hN).filter _), fun a ha b hb e => ?_⟩)
    obtain ⟨x, _, rfl⟩ := List.mem_map.mp ha
    obtain ⟨y, _, rfl⟩ := List.mem_map.mp hb
    have : onS = offS := congrArg Prod.snd e
    exact absurd this (by decide +kernel)
/-- those of some that are not there yet, with their cause -/
def fresh (had : List (Str × Str)) (at_ : Nat) (ds : List (Str × Str)) : List Row := (ds.filter fun d => decide (d ∉ had)).map fun d => (d.1, d.2, (at_ : Int))
theorem fresh_bares (had : List (Str × Str)) (at_ : Nat) (ds : List (Str × Str)) : bares (fresh had at_ ds) = ds.filter fun d => decide (d ∉ had) := by
  unfold fresh
  rw [show bares (List.map (fun d : Str × Str => (d.1, d.2, (at_ : Int))) (ds.filter fun d => decide (d ∉ had))) = ((ds.filter fun d => decide (d ∉ had)).map fun d => (d.1, d.2, (at_ : Int))).map bare from rfl, List.map_map]
  exact List.map_id _
theorem Growing.next {us : List (Str × UF)} {rs : List Row} {r : Row} {at_ : Nat} {gs : List Row} {g : Row} (G : Growing us rs r at_ gs) (hg : gs[at_]? = some g) (ndA : (ao us (bare g)).Nodup) : Growing us rs r (at_ + 1) (gs ++ fresh (bares gs) at_ (ao us (bare g))) := by
  have lt : at_ < gs.length := (List.getElem?_eq_some_iff.mp hg).1
  have bs : bares (gs ++ fresh (bares gs) at_ (ao us (bare g))) = bares gs ++ (ao us (bare g)).filter fun d => decide (d ∉ bares gs) := by
    rw [← fresh_bares (bares gs) at_]
    exact List.map_append
  obtain ⟨ext, hext⟩ := G.head
  refine ⟨⟨ext ++ fresh (bares gs) at_ (ao us (bare g)), ?_⟩, ?_, fun d hd => ?_, Nat.le_succ_of_le G.lo, ?_, fun i h lo hi hh d hd => ?_, fun i h lo hh => ?_⟩
  · rw [hext, List.append_assoc, List.cons_append]
  · rw [bs]
    refine List.nodup_append.mpr ⟨G.nd, ndA.filter _, fun a ha b hb e => ?_⟩
    subst e
    exact of_decide_eq_true (List.mem_filter.mp hb).2 ha
  · rw [bs] at hd
    rcases List.mem_append.mp hd with hd | hd
    · exact G.wd d hd
    · exact ao_wd (List.mem_filter.mp hd).1
  · rw [List.length_append]
    omega
  · have old : gs[i]? = some h := by rw [List.getElem?_append_left (by omega)] at hh; exact hh
    rw [bs]
    by_cases c : i < at_
    · exact List.mem_append_left _ (G.closed i h lo c old d hd)
    · obtain rfl : i = at_ := by omega
      rw [hg] at old
      cases old
      by_cases z : d ∈ bares gs
      · exact List.mem_append_left _ z
      · exact List.mem_append_right _ (List.mem_filter.mpr ⟨hd, decide_eq_true z⟩)
  · by_cases c : i < gs.length
    · have old : gs[i]? = some h := by rw [List.getElem?_append_left c] at hh; exact hh
      obtain ⟨j, k, h1, h2, h3, h4, h5⟩ := G.caused i h lo old
      exact ⟨j, k, h1, h2, h3, by rw [List.getElem?_append_left (by omega)]; exact h4, h5⟩
    · rw [List.getElem?_append_right (by omega)] at hh
      have hm := List.mem_of_getElem? hh
      unfold fresh at hm
      obtain ⟨d, hd, rfl⟩ := List.mem_map.mp hm
      exact ⟨at_, g, G.lo, by omega, rfl, by rw [List.getElem?_append_left lt]; exact hg, (List.mem_filter.mp hd).1⟩
def sp_spread (K : PySem.W.Frag) : Sp := fun vs H Q _ => ∃ (p l : Addr) (n w : Str) (c : Int) (us : List (Str × UF)) (xs : List V) (rs : List Row), vs = [.ref p, .ref l, .str n, .str w, .int c] ∧ ShelfAt K H p us ∧ Nms us ∧ (∀ p ∈ us, p.2.needs.length ≤ 100 ∧ p.2.needs.Nodup) ∧ SqL K H l xs ∧ TrH H xs rs ∧ (bares (rs ++ [(n, w, c)])).Nodup ∧ (∀ d ∈ bares (rs ++ [(n, w, c)]), WD us d) ∧
  ∀ D ys gs H', H D = none → Same H H' → H' D = some (.lst ys) → TrH H' ys gs → Grown us rs (n, w, c) gs → Q (.ref D) H'
theorem ok_spread (T : Txt K mg) : FnOk P w K mg base CX0 5 (He.fAd K ("spread", none)) T.d_spread ["shelf", "demands", "name", "way", "cause"] (sp_spread K) := by
  refine T.F_spread.ok sc_spread (fun vs H Q E h => ?_) (fun cdv A outer s H vs Q E hr h => ?_)
  · obtain ⟨p, l, n, w, c, us, xs, rs, rfl, _⟩ := h
    rfl
  · obtain ⟨p, l, n, w, c, us, xs, rs, rfl, hS, hN, hF, hl, hT, nd0, wd0, q⟩ := h
    refine ⟨_, PSs.nox (pss_cons (ps_set (i := 5) sc_spread.nd rfl (Or.inl rfl) (pe_lst (StX.pa_star (pv 1) (pa_cons (pe_tup (pa_cons (pv 2) (pa_cons (pv 3) (pa_cons (pv 4) pa_nil)))) pa_nil))))
      (pss_cons (ps_set (i := 6) sc_spread.nd rfl (Or.inl rfl) (pe_callB (id := "len")  call_len_seq (by rfl) T.n_len (by decide +kernel) (pa_cons (pv 1) pa_nil)))
      (pss_cons (ps_while PassesOwn.never (pt_cmpR op_lt (pv 6) (pe_callB (id := "len")  call_len_seq (by rfl) T.n_len (by decide +kernel) (pa_cons (pv 5) pa_nil)) (nomark _))
      (pss_cons (ps_set (i := 7) sc_spread.nd rfl (Or.inl rfl) (pe_call (ok_without_causes T) (hr.mono (by decide)) (by rfl) T.m_without_causes T.F_without_causes.kp T.b_without_causes .nil pass0 (pa_cons (pv 5) pa_nil)))
      (pss_cons (ps_for PassesOwn.never rfl (pi_list (pe_call (ok_at_once T) (hr.mono (by decide)) (by rfl) T.m_at_once T.F_at_once.kp T.b_at_once .nil pass0 (pa_cons (pv 0) (pa_cons (pe_ix ix_list (pv 7) (pv 6) (fun _ _ => rfl)) pa_nil)))) (pg_tup rfl (pgs_cons (pg_name (i := 8) sc_spread.nd rfl (Or.inl rfl)) (pgs_cons (pg_name (i := 9) sc_spread.nd rfl (Or.inl rfl)) pgs_nil)))
      (pss_one (ps_if (pt_cmpR (op_notInD (UP.un65 hr)) (pe_tup (pa_cons (pv 8) (pa_cons (pv 9) pa_nil))) (pv 7) (by rfl))
      (pss_one (ps_expr (pe_bm PySem.F.plainAttrs_list PySem.F.slot_list_append PySem.F.type_list_append mt_append (pv 5) (pa_cons (pe_tup (pa_cons (pv 8) (pa_cons (pv 9) (pa_cons (pv 6) pa_nil)))) pa_nil))))
      pss_nil)))
      (pss_one (ps_aug (i := 6) sc_spread.nd rfl (.inl rfl) pe_int ip_add)))))
      (pss_one (ps_ret (pv 5)))))), ?_⟩
    -- grown = [*demands, (name, way, cause)]
    have few0 : rs.length + 1 ≤ 32 := by
      have := wd_few hN nd0 wd0
      rw [List.length_map, List.length_append] at this
      exact this
    refine ⟨_, rfl, l, xs, rfl, .inr hl, _, rfl, _, rfl, _, rfl, by show 3 ≤ sizeLine; decide, fun t0 nt0 => ?_⟩
    generalize hE1 : upd H t0 _ = H1
    have wt0 := new_at hE1
    have s1 := new_same hE1 nt0
    refine ⟨by rw [List.length_append, hT.len]; exact Nat.le_of_lt (small1000 (by show rs.length + 1 ≤ 1000; omega)), fun D nD => ?_⟩
    generalize hE2 : upd H1 D _ = H2
    have wD := new_at hE2
    have s2 := new_same hE2 nD
    have nDH : H D = none := s1.free nD
    have s02 := s1.trans s2
    -- at = len(demands)
    refine ⟨_, rfl, l, _, rfl, .inl (SqL.ext hl s02), ?_⟩
    rw [hT.len]
    refine ⟨fun m σ H' => Same H H' ∧ ∃ (at_ : Nat) (ys : List V) (gs : List Row) (y7 y8 y9 : Option V), H' D = some (.lst ys) ∧ TrH H' ys gs ∧ Growing us rs (n, w, c) at_ gs ∧ m = 40 - at_ ∧
        σ = [some (.ref p), some (.ref l), some (.str n), some (.str w), some (.int c), some (.ref D), some (.int at_), y7, y8, y9],
      ⟨_, s02, rs.length, _, rs ++ [(n, w, c)], none, none, none, wD, (hT.same s02).app (.cons (s2 _ _ wt0) .nil), ⟨⟨[], rfl⟩, nd0, wd0, Nat.le_refl _, by rw [List.length_append]; exact Nat.le_add_right _ _, fun i g h1 h2 => by omega, fun i g h1 h2 => ?_⟩, rfl, rfl⟩, ?_⟩
    · have := (List.getElem?_eq_some_iff.mp h2).1
      rw [List.length_append] at this
      exact absurd this (by show ¬ i < rs.length + 1; omega)
    clear wt0 wD hE1 hE2
    rintro m σ H3 ⟨s3, at_, ys, gs, y7, y8, y9, wD, hG, G, rfl, rfl⟩
    have few : gs.length ≤ 32 := by
      have := wd_few hN G.nd G.wd
      rwa [List.length_map] at this
    refine ⟨_, rfl, _, rfl, D, _, rfl, .inl (SqL.of wD), _, _, rfl, rfl, _, rfl, ?_⟩
    rw [hG.len]
    by_cases lt : at_ < gs.length
    case neg =>
      obtain rfl : at_ = gs.length := Nat.le_antisymm G.hi (by omega)
      refine iteNd (by omega) ⟨_, rfl, q D ys gs H3 nDH s3 wD hG ⟨G.head, G.nd, G.wd, fun i g h1 h2 => G.closed i g h1 (List.getElem?_eq_some_iff.mp h2).1 h2, G.caused⟩⟩
    refine iteYd (by omega) ⟨_, fun σ' H' h => h, ?_⟩
    obtain ⟨g, hg⟩ : ∃ g, gs[at_]? = some g := ⟨_, List.getElem?_eq_getElem lt⟩
    -- had = without_causes(grown)
    refine ⟨_, rfl, D, ys, gs, rfl, SqL.of wD, hG, by omega, fun L lxs H4 nL s4 wL pL => ?_⟩
    have nDL : D ≠ L := ne_some wD nL
    have lat : ∃ t, lxs[at_]? = some (.ref t) ∧ H4 t = some (.tup [.str (bare g).1, .str (bare g).2]) := by
      have ll := pL.len
      rw [List.length_map] at ll
      obtain ⟨t, d, e1, e2, e3⟩ := pL.get (List.getElem?_eq_getElem (show at_ < lxs.length by omega))
      rw [List.getElem?_map, hg] at e2
      cases e2
      exact ⟨t, by rw [List.getElem?_eq_getElem (show at_ < lxs.length by omega), e1], e3⟩
    obtain ⟨t, e1, ht⟩ := lat
    have gwd : WD us (bare g) := G.wd _ (List.mem_map.mpr ⟨g, List.mem_of_getElem? hg, rfl⟩)
    -- for other, turn in at_once(shelf, had[at])
    refine ⟨_, rfl, _, rfl, _, rfl, L, _, _, _, rfl, rfl, SqL.of wL, atI_nat e1, ?_⟩
    refine ⟨p, t, us, bare g, rfl, hS.same (s3.trans s4), hN, fun p hp => (hF p hp).1, SqT.of ht, gwd.1, fun B bxs H5 nB s5 wB pB => ?_⟩
    have nDB : D ≠ B := ne_some (s4 _ _ wD) nB
    have nLB : L ≠ B := ne_some wL nB
    have ndA := ao_nodup (fun p hp => (hF p hp).2) hN.nd (bare g)
    have okA : ∀ d ∈ ao us (bare g), Ok2 d := fun d hd => wd_ok hN (ao_wd hd)
    have okG : ∀ d ∈ bares gs, Ok2 d := fun d hd => wd_ok hN (G.wd d hd)
    have s05 := (s3.trans s4).trans s5
    refine ⟨B, rfl, ⟨_, SqL.of wB⟩, for_list (xs := bxs) (fun j σ H' => Same H H' ∧ H' B = some (.lst bxs) ∧ PrH H' bxs (ao us (bare g)) ∧ H' L = some (.lst lxs) ∧ PrH H' lxs (bares gs) ∧ ∃ (zs : List V) (y8 y9 : Option V), H' D = some (.lst zs) ∧ TrH H' zs (gs ++ fresh (bares gs) at_ ((ao us (bare g)).take j)) ∧
          σ = [some (.ref p), some (.ref l), some (.str n), some (.str w), some (.int c), some (.ref D), some (.int at_), some (.ref L), y8, y9])
      ⟨s05, wB, pB, s5 _ _ wL, pL.same s5, ys, _, _, s5 _ _ (s4 _ _ wD), by rw [show fresh (bares gs) at_ ((ao us (bare g)).take 0) = [] from rfl, List.append_nil]; exact (hG.same s4).same s5, rfl⟩ (fun j σ H' _ h => SqL.of h.2.1) ?_ ?_⟩
    · rintro j x σ H6 hj ⟨s6, wB6, pB6, wL6, pL6, zs, y8, y9, wD6, hZ6, rfl⟩
      obtain ⟨u, d, rfl, hd, hu⟩ := pB6.get hj
      have hdm : d ∈ ao us (bare g) := List.mem_of_getElem? hd
      refine ⟨u, _, rfl, SqT.of hu, rfl, _, _, rfl, _, _, rfl, rfl, ?_⟩
      refine ⟨_, rfl, _, rfl, by show 2 ≤ sizeLine; decide, fun t2 n2 => ⟨_, rfl, ?_⟩⟩
      generalize hE7 : upd H6 t2 _ = H7
      have w7 := new_at hE7
      have s7 := new_same hE7 n2
      have step : fresh (bares gs) at_ ((ao us (bare g)).take (j + 1)) = fresh (bares gs) at_ ((ao us (bare g)).take j) ++ fresh (bares gs) at_ [d] := by
        rw [take_snoc hd]
        unfold fresh
        rw [List.filter_append, List.map_append]
      refine notInD2 (d := d) (SqT.of w7) (SqL.of (s7 _ _ wL6)) (pL6.same s7).prs (okA d hdm) okG ⟨_, rfl, ?_⟩
      by_cases cd : d ∈ bares gs
      · rw [decide_eq_true cd]
        refine iteF ⟨s6.trans s7, s7 _ _ wB6, pB6.same s7, s7 _ _ wL6, pL6.same s7, zs, _, _, s7 _ _ wD6, ?_, rfl⟩
        rw [step, show fresh (bares gs) at_ [d] = [] by unfold fresh; rw [List.filter_cons_of_neg (p := fun d => decide (d ∉ bares gs)) (by rw [decide_eq_false (fun z => z cd)]; exact Bool.false_ne_true)]; rfl, List.append_nil]
        exact hZ6.same s7
      · rw [decide_eq_false cd]
        have wD7 := s7 _ _ wD6
        refine iteT ⟨_, rfl, .inl ⟨rfl, _, SqL.of wD7⟩, _, rfl, _, rfl, _, rfl, by show 3 ≤ sizeLine; decide, fun t3 n3 => ?_⟩
        generalize hE8 : upd H7 t3 _ = H8
        have w8 := new_at hE8
        have s8 := new_same hE8 n3
        have zl : zs.length ≤ 200 := by
          have e1 := hZ6.len
          have e2 : (fresh (bares gs) at_ ((ao us (bare g)).take j)).length ≤ 40 := by
            have h1 := congrArg List.length (fresh_bares (bares gs) at_ ((ao us (bare g)).take j))
            rw [List.length_map] at h1
            rw [h1]
            refine Nat.le_trans (List.length_filter_le _ _) (Nat.le_trans (List.length_take_le' ..) (Nat.le_trans (wd_few hN ndA fun d hd => ao_wd hd) (by decide)))
          rw [List.length_append] at e1
          omega
        refine ⟨D, _, _, rfl, rfl, s8 _ _ wD7, small1000 (by omega), ?_⟩
        generalize hE9 : upd H8 D _ = H9
        have w9 := new_at hE9
        have m9 := mut_keep hE9
        have nt9 : NotTup H8 D := .lst (s8 _ _ wD7)
        have s78 := s7.trans s8
        refine ⟨Same.own (s6.trans s78) m9 nDH, m9 _ _ (s78 _ _ wB6) nDB.symm, (pB6.same s78).keep m9 nt9, m9 _ _ (s78 _ _ wL6) nDL.symm, (pL6.same s78).keep m9 nt9, _, _, _, w9, ?_, rfl⟩
        have one : fresh (bares gs) at_ [d] = [(d.1, d.2, (at_ : Int))] := by
          unfold fresh
          rw [List.filter_cons_of_pos (p := fun d => decide (d ∉ bares gs)) (decide_eq_true cd)]
          rfl
        rw [step, one, ← List.append_assoc]
        exact ((hZ6.same s78).keep m9 nt9).app (.cons (m9 _ _ w8 (nt9.ne w8)) .nil)
    · rintro σ H6 ⟨s6, wB6, pB6, wL6, pL6, zs, y8, y9, wD6, hZ6, rfl⟩
      rw [pB6.len, List.take_length] at hZ6
      refine ⟨_, rfl, _, _, rfl, rfl, 40 - (at_ + 1), by omega, s6, at_ + 1, zs, _, _, _, _, wD6, hZ6, G.next hg ndA, rfl, rfl⟩

def sp_plan_off (K : PySem.W.Frag) : Sp := fun vs H Q _ => ∃ (p st : Addr) (n : Str) (us : List (Str × UF)), vs = [.ref p, .ref st, .str n] ∧ ShelfAt K H p us ∧ Nms us ∧ (∀ p ∈ us, p.2.needs.length ≤ 100 ∧ p.2.needs.Nodup) ∧ n ∈ us.map (·.1) ∧
  ∀ D o gs H', H D = none → Same H H' → PlanAt K H' D n offS gs o → SqT K H' o [] → Grown us [] (n, offS, -1) gs → Q (.ref D) H'
theorem ok_plan_off (T : Txt K mg) : FnOk P w K mg base CX0 7 (He.fAd K ("plan_off", none)) T.d_plan_off ["shelf", "stand", "name"] (sp_plan_off K) := by
  refine T.F_plan_off.ok sc_plan_off (fun vs H Q E h => ?_) (fun cdv A outer s H vs Q E hr h => ?_)
  · obtain ⟨p, st, n, us, rfl, _⟩ := h
    rfl
  · obtain ⟨p, st, n, us, rfl, hS, hN, hF, hn, q⟩ := h
    refine ⟨_, PSs.nox (pss_cons (ps_expr (pe_meth (pv 0) T.cl_Shelf T.me_Shelf_unit (ok_Shelf_unit T) (hr.mono (by decide)) T.b_Shelf_unit .nil pass0 (pa_cons (pv 2) pa_nil)))
      (pss_one (ps_ret (pe_make T.mk_Plan (ok_Plan_init T) (hr.mono (by decide)) (by rfl) T.m_Plan T.bp_Plan_init_4.choose_spec.2 T.bp_Plan_init_4.choose_spec.1 pass0 (pa_cons (pv 2) (pa_cons pe_str (pa_cons (pe_callTy (T := "tuple")  call_tuple_of (by rfl) T.n_tuple (by decide +kernel) (pa_cons (pe_call (ok_spread T) (hr.mono (by decide)) (by rfl) T.m_spread T.F_spread.kp T.b_spread .nil pass0 (pa_cons (pv 0) (pa_cons (pe_lst pa_nil) (pa_cons (pv 2) (pa_cons pe_str (pa_cons (pe_un un_neg pe_int) pa_nil)))))) pa_nil)) pa_nil))))))), ?_⟩
    obtain ⟨dx, dd, kvs, hp, _⟩ := id hS
    refine ⟨_, rfl, p, dx, _, rfl, hp, rfl, _, rfl, p, n, us, rfl, hS, hN, hn, fun a u hu hA => ?_⟩
    refine ⟨_, rfl, _, rfl, by show 0 ≤ sizeLine; decide, fun l0 nl0 => ?_⟩
    generalize hE1 : upd H l0 _ = H1
    have w1 := new_at hE1
    have s1 := new_same hE1 nl0
    refine ⟨_, rfl, _, rfl, p, l0, n, offS, -1, us, [], [], rfl, hS.same s1, hN, hF, SqL.of w1, .nil, List.nodup_cons.mpr ⟨List.not_mem_nil, List.nodup_nil⟩, (fun d hd => ?_), fun G ys gs H2 nG s2 w2 hG grown => ?_⟩
    · rw [List.mem_singleton.mp hd]
      exact ⟨hn, .inr rfl⟩
    refine ⟨G, ys, rfl, .inl ⟨SqL.of w2, fun d nd => ?_⟩⟩
    generalize hE3 : upd H2 d _ = H3
    have w3 := new_at hE3
    have s3 := new_same hE3 nd
    refine fun x dx nx ndx ne => ⟨x, dx, _, _, _, _, rfl, upd_same, fun H4 w4 k4 => ⟨rfl, ?_⟩⟩
    have s4 : Same H3 H4 := made_same nx ndx ne k4
    have s04 : Same H H4 := ((s1.trans s2).trans s3).trans s4
    exact q x _ gs H4 (((s1.trans s2).trans s3).free nx) s04 ⟨dx, d, ys, w4, SqT.of (s4 _ _ w3), (hG.same s3).same s4⟩ (T.e1_Plan_init H4) grown

-- SPLIT
/-! ### all that need one: by going over all units again and again -/
section
variable {us : List (Str × UF)} {w : Str}
def needsAny (us : List (Str × UF)) (p : Str → Bool) (x : Str) : Bool := match fu us x with
  | some u => u.needs.any p
  | none => false
def dset (us : List (Str × UF)) (w : Str) : Nat → Str → Bool
  | 0, x => decide (x = w)
  | k + 1, x => dset us w k x || needsAny us (dset us w k) x
def dls (us : List (Str × UF)) (w : Str) (k : Nat) : List Str := (us.map (·.1)).filter (dset us w k)
theorem fu_in {us : List (Str × UF)} {x : Str} {u : UF} (h : fu us x = some u) : x ∈ us.map (·.1) := by
  unfold fu at h
  cases e : us.find? (fun p => decide (p.1 = x)) with
  | none => rw [e] at h; cases h
  | some p =>
    have h1 := List.find?_some e
    have h2 := List.mem_of_find?_eq_some e
    have h3 : p.1 = x := of_decide_eq_true h1
    exact List.mem_map.mpr ⟨p, h2, h3⟩
theorem dset_in (hw : w ∈ us.map (·.1)) : ∀ (k : Nat) (x : Str), dset us w k x = true → x ∈ us.map (·.1)
  | 0, x, h => by
    rw [show x = w from of_decide_eq_true h]
    exact hw
  | k + 1, x, h => by
    rcases Bool.or_eq_true_iff.mp h with h | h
    · exact dset_in hw k x h
    · unfold needsAny at h
      split at h
      · rename_i u hu
        exact fu_in hu
      · cases h
theorem dls_mem (hw : w ∈ us.map (·.1)) {k : Nat} {x : Str} : x ∈ dls us w k ↔ dset us w k x = true := by
  unfold dls
  rw [List.mem_filter]
  exact ⟨fun z => z.2, fun z => ⟨dset_in hw k x z, z⟩⟩
theorem dls_sub (k : Nat) : (dls us w k).Sublist (dls us w (k + 1)) := by
  unfold dls
  have e : (us.map (·.1)).filter (dset us w k) = ((us.map (·.1)).filter (dset us w (k + 1))).filter (dset us w k) := by
    rw [List.filter_filter]
    refine List.filter_congr fun x _ => ?_
    show _ = (_ && (_ || _))
    cases dset us w k x <;> rfl
  rw [e]
  exact List.filter_sublist
theorem dset_stop (hw : w ∈ us.map (·.1)) {k : Nat} (e : dls us w (k + 1) = dls us w k) : dset us w (k + 1) = dset us w k := funext fun x => by
  have : dset us w (k + 1) x = true ↔ dset us w k x = true := by rw [← dls_mem hw, ← dls_mem hw, e]
  exact Bool.eq_iff_iff.mpr this
theorem dls_grow (hw : w ∈ us.map (·.1)) : ∀ k : Nat, dls us w (k + 1) = dls us w k ∨ k + 1 ≤ (dls us w k).length
  | 0 => .inr (List.length_pos_of_mem ((dls_mem hw).mpr (show dset us w 0 w = true from decide_eq_true rfl)))
  | k + 1 => by
    by_cases e : dls us w (k + 1) = dls us w k
    · left
      have s := dset_stop hw e
      have s2 : dset us w (k + 2) = dset us w (k + 1) := funext fun x => by
        show (dset us w (k + 1) x || needsAny us (dset us w (k + 1)) x) = (dset us w k x || needsAny us (dset us w k) x)
        rw [s]
      unfold dls
      rw [s2]
    · right
      have h := (dls_grow hw k).resolve_left e
      have lt : (dls us w k).length < (dls us w (k + 1)).length := Nat.lt_of_le_of_ne (dls_sub k).length_le fun z => e ((dls_sub k).eq_of_length z).symm
      omega
theorem dset_end (hw : w ∈ us.map (·.1)) : dset us w (us.length + 1) = dset us w us.length := by
  refine dset_stop hw ((dls_grow hw us.length).resolve_right fun z => ?_)
  have : (dls us w us.length).length ≤ (us.map (·.1)).length := List.length_filter_le _ _
  rw [List.length_map] at this
  omega
theorem ao_offE {x : Str} : ao us (x, offS) = (nd us x).map (·, offS) := by
  unfold ao
  exact if_pos rfl
theorem nd_memE {x y : Str} {u : UF} (hu : fu us y = some u) : y ∈ nd us x ↔ x ∈ u.needs := by
  unfold nd
  rw [List.mem_filter, srt_mem]
  unfold needB
  rw [hu]
  exact ⟨fun z => of_decide_eq_true z.2, fun z => ⟨fu_in hu, decide_eq_true z⟩⟩
theorem dset_reach (hw : w ∈ us.map (·.1)) : ∀ (k : Nat) (x : Str), dset us w k x = true → Reach us [(w, offS)] (x, offS)
  | 0, x, h => by
    rw [show x = w from of_decide_eq_true h]
    exact .base (List.mem_singleton.mpr rfl)
  | k + 1, x, h => by
    rcases Bool.or_eq_true_iff.mp h with h | h
    · exact dset_reach hw k x h
    · unfold needsAny at h
      split at h
      · rename_i u hu
        obtain ⟨n, hn, hd⟩ := List.any_eq_true.mp h
        refine .step (dset_reach hw k n hd) ?_
        rw [ao_offE]
        exact List.mem_map.mpr ⟨x, (nd_memE hu).mpr hn, rfl⟩
      · cases h
theorem reach_off {d : Str × Str} (h : Reach us [(w, offS)] d) : d.2 = offS := by
  induction h with
  | base h => rw [List.mem_singleton.mp h]
  | @step a b _ g ih =>
    obtain ⟨x, y⟩ := a
    obtain rfl : y = offS := ih
    rw [ao_offE] at g
    obtain ⟨z, _, rfl⟩ := List.mem_map.mp g
    rfl
theorem down_is (hN : Nms us) (hw : w ∈ us.map (·.1)) {x : Str} : x ∈ dls us w us.length ↔ Reach us [(w, offS)] (x, offS) := by
  refine ⟨fun z => dset_reach hw _ x ((dls_mem hw).mp z), fun z => ?_⟩
  have all : (x, offS) ∈ (dls us w us.length).map (·, offS) := closed_reach (fun d hd => ?_) (fun a ha b hb => ?_) z
  · obtain ⟨y, hy, e⟩ := List.mem_map.mp all
    cases e
    exact hy
  · rw [List.mem_singleton.mp hd]
    refine List.mem_map.mpr ⟨w, (dls_mem hw).mpr ?_, rfl⟩
    have : ∀ k, dset us w k w = true := fun k => by
      induction k with
      | zero => exact decide_eq_true rfl
      | succ k ih => exact Bool.or_eq_true_iff.mpr (.inl ih)
    exact this _
  · obtain ⟨y, hy, rfl⟩ := List.mem_map.mp ha
    rw [ao_offE] at hb
    obtain ⟨v, hv, rfl⟩ := List.mem_map.mp hb
    obtain ⟨u, hu, _⟩ := fu_of (srt_mem.mp (List.mem_filter.mp hv).1) hN.nd
    refine List.mem_map.mpr ⟨v, (dls_mem hw).mpr ?_, rfl⟩
    rw [← dset_end hw]
    refine Bool.or_eq_true_iff.mpr (.inr ?_)
    unfold needsAny
    rw [hu]
    exact List.any_eq_true.mpr ⟨y, (nd_memE hu).mp hv, (dls_mem hw).mp hy⟩
/-- the rows of a plan to turn one off: that one and all that need it -/
theorem Grown.reach {c : Int} {gs : List Row} (G : Grown us [] (w, offS, c) gs) {d : Str × Str} : d ∈ bares gs ↔ Reach us [(w, offS)] d := by
  obtain ⟨ext, rfl⟩ := G.head
  constructor
  · intro z
    obtain ⟨g, hg, rfl⟩ := List.mem_map.mp z
    obtain ⟨i, hi⟩ := List.getElem?_of_mem hg
    have all : ∀ (n i : Nat) (g : Row), i < n → ([] ++ (w, offS, c) :: ext)[i]? = some g → Reach us [(w, offS)] (bare g) := fun n => by
      induction n with
      | zero => exact fun i g lt _ => nomatch lt
      | succ n ih =>
        intro i g lt hi
        cases i with
        | zero =>
          cases hi
          exact .base (List.mem_singleton.mpr rfl)
        | succ i =>
          obtain ⟨j, k, _, h2, _, h4, h5⟩ := G.caused (i + 1) g (Nat.succ_pos i) hi
          exact .step (ih j k (by omega) h4) h5
    exact all (i + 1) i g (Nat.lt_succ_self i) hi
  · refine closed_reach (fun e he => ?_) fun a ha b hb => ?_
    · rw [List.mem_singleton.mp he]
      exact List.mem_map.mpr ⟨(w, offS, c), List.mem_cons_self, rfl⟩
    · obtain ⟨g, hg, rfl⟩ := List.mem_map.mp ha
      obtain ⟨i, hi⟩ := List.getElem?_of_mem hg
      exact G.closed i g (Nat.zero_le _) hi b hb
theorem Grown.downs (hN : Nms us) (hw : w ∈ us.map (·.1)) {c : Int} {gs : List Row} (G : Grown us [] (w, offS, c) gs) : (bares gs).Perm ((srt (dls us w us.length)).map (·, offS)) := by
  have nd2 : ((srt (dls us w us.length)).map (·, offS)).Nodup := by
    refine List.pairwise_map.mpr (List.Pairwise.imp (fun ne e => ne (congrArg Prod.fst e)) (srt_nodup (List.Nodup.sublist List.filter_sublist hN.nd)))
  refine (List.perm_ext_iff_of_nodup G.nd nd2).mpr fun d => ?_
  rw [G.reach]
  constructor
  · intro z
    have e := reach_off z
    obtain ⟨x, y⟩ := d
    obtain rfl : y = offS := e
    exact List.mem_map.mpr ⟨x, srt_mem.mpr ((down_is hN hw).mpr z), rfl⟩
  · intro z
    obtain ⟨x, hx, rfl⟩ := List.mem_map.mp z
    exact (down_is hN hw).mp (srt_mem.mp hx)
theorem srtP_off (xs : List Str) : srtP ((srt xs).map (·, offS)) = (srt xs).map (·, offS) := by
  refine (srtP_uniq (List.Perm.refl _) (List.pairwise_map.mpr (List.Pairwise.imp (fun {a b} h => ?_) (srt_pw xs)))).symm
  refine (leP_iff _ _).mpr ?_
  by_cases e : a = b
  · exact .inr ⟨e, by rw [show ((a, offS) : Str × Str).2 = ((b, offS) : Str × Str).2 from rfl]; exact leS_refl _⟩
  · have h : (!ltS b a) = true := h
    exact .inl (ltS_or (by cases z : ltS b a with | false => rfl | true => rw [z] at h; cases h) fun z => e z.symm)
end

-- SPLIT
/-! ### the stand behind a plan -/
def onL (rs : List Row) : List Str := waysL (bares rs) onS
def offL (rs : List Row) : List Str := waysL (bares rs) offS
/-- the stand behind: names ns are those of the shelf -/
def bh (ns : List Str) (s : SF) (rs : List Row) : SF := ⟨(srt ns).filter fun x => decide ((x ∈ s.wished ∨ x ∈ onL rs) ∧ x ∉ offL rs), s.up, s.later.filter fun x => decide (x ∉ onL rs ++ offL rs), s.back.filter fun x => decide (x ∉ onL rs ++ offL rs)⟩
def sp_behind (K : PySem.W.Frag) : Sp := fun vs H Q _ => ∃ (a b o : Addr) (n w : Str) (s : SF) (rs : List Row) (ns : List Str), vs = [.ref a, .ref b] ∧ StandAt K H a s ∧ PlanAt K H b n w rs o ∧ ns.Nodup ∧ ns.length ≤ 16 ∧ (∀ x ∈ s.wished, x ∈ ns) ∧ (∀ x ∈ onL rs, x ∈ ns) ∧ rs.length ≤ 40 ∧ s.wished.length ≤ 40 ∧ s.later.length ≤ 100 ∧ s.back.length ≤ 100 ∧
  ∀ D H', H D = none → Same H H' → StandAt K H' D (bh ns s rs) → Q (.ref D) H'
theorem ok_behind (T : Txt K mg) : FnOk P w K mg base CX0 7 (He.fAd K ("behind", none)) T.d_behind ["stand", "plan"] (sp_behind K) := by
  refine T.F_behind.ok sc_behind (fun vs H Q E h => ?_) (fun cdv A outer s H vs Q E hr h => ?_)
  · obtain ⟨a, b, o, n, w, s, rs, ns, rfl, _⟩ := h
    rfl
  · obtain ⟨a, b, o, n, w, s, rs, ns, rfl, hA, hP, nns, fns, hW, hO, frs, fw, fl, fb, q⟩ := h
    refine ⟨_, PSs.nox (pss_cons (ps_set (i := 2) sc_behind.nd rfl (Or.inr rfl) (pe_lc (own := [("name", 4), ("way", 5), ("cause", 6)]) (g := gTup K 3 (gCons (gName 4) (gCons (gName 5) (gCons (gName 6) gNil)))) (by rfl) sc_behind.nd (pi_tup (pe_fld (pv 1) rfl)) (blkOk_by (own := [("name", 4), ("way", 5), ("cause", 6)]) (N := N_behind) (sc := defScope s_behind) (by decide +kernel)) (fun _ _ _ _ _ => by exact (pg_tup rfl (pgs_cons (pg_name (i := 4) sc_behind.nd rfl (Or.inl rfl)) (pgs_cons (pg_name (i := 5) sc_behind.nd rfl (Or.inl rfl)) (pgs_cons (pg_name (i := 6) sc_behind.nd rfl (Or.inl rfl)) pgs_nil))))) (fun _ _ _ _ _ => (pts_one (pt_cmpR op_eq (pv 5) pe_str (nomark _)))) (fun _ _ _ _ _ => (pv 4))))
      (pss_cons (ps_set (i := 3) sc_behind.nd rfl (Or.inr rfl) (pe_lc (own := [("name", 4), ("way", 5), ("cause", 6)]) (g := gTup K 3 (gCons (gName 4) (gCons (gName 5) (gCons (gName 6) gNil)))) (by rfl) sc_behind.nd (pi_tup (pe_fld (pv 1) rfl)) (blkOk_by (own := [("name", 4), ("way", 5), ("cause", 6)]) (N := N_behind) (sc := defScope s_behind) (by decide +kernel)) (fun _ _ _ _ _ => by exact (pg_tup rfl (pgs_cons (pg_name (i := 4) sc_behind.nd rfl (Or.inl rfl)) (pgs_cons (pg_name (i := 5) sc_behind.nd rfl (Or.inl rfl)) (pgs_cons (pg_name (i := 6) sc_behind.nd rfl (Or.inl rfl)) pgs_nil))))) (fun _ _ _ _ _ => (pts_one (pt_cmpR op_eq (pv 5) pe_str (nomark _)))) (fun _ _ _ _ _ => (pv 4))))
      (pss_one (ps_ret (pe_makeK0 T.mk_Stand (ok_Stand_init T) (hr.mono (by decide)) (by rfl) T.m_Stand T.kb_Stand_init_1_wished_up_later_back.choose_spec pass0 (pk_cons (pe_callTy (T := "tuple")  call_tuple_of (by rfl) T.n_tuple (by decide +kernel) (pa_cons (pe_callB (id := "sorted")  (UZ.cr_sortT rfl) (by rfl) T.n_sorted (by decide +kernel) (pa_cons (pe_op UZ.or_minusT (pe_op UZ.or_orT (pe_callTy (T := "set")  (UZ.cr_setT rfl) (by rfl) T.n_set (by decide +kernel) (pa_cons (pe_fld (pv 0) rfl) pa_nil)) (pe_callTy (T := "set")  (UZ.cr_setT rfl) (by rfl) T.n_set (by decide +kernel) (pa_cons (pv 2) pa_nil))) (pe_callTy (T := "set")  (UZ.cr_setT rfl) (by rfl) T.n_set (by decide +kernel) (pa_cons (pv 3) pa_nil))) pa_nil)) pa_nil)) (pk_cons (pe_fld (pv 0) rfl) (pk_cons (pe_callTy (T := "tuple")  call_tuple_of (by rfl) T.n_tuple (by decide +kernel) (pa_cons (pe_lc (own := [("name", 4)]) (by rfl) sc_behind.nd (pi_tup (pe_fld (pv 0) rfl)) (blkOk_by (own := [("name", 4)]) (N := N_behind) (sc := defScope s_behind) (by decide +kernel)) (fun _ _ _ _ _ => (pg_name (i := 4) sc_behind.nd rfl (Or.inl rfl))) (fun _ _ _ _ _ => (pts_one (pt_cmpR (r := rIn K true) op_notIn_seq (pv 4) (pe_op op_cat (pv 2) (pv 3)) (by rfl)))) (fun _ _ _ _ _ => (pv 4))) pa_nil)) (pk_cons (pe_callTy (T := "tuple")  call_tuple_of (by rfl) T.n_tuple (by decide +kernel) (pa_cons (pe_lc (own := [("name", 4)]) (by rfl) sc_behind.nd (pi_tup (pe_fld (pv 0) rfl)) (blkOk_by (own := [("name", 4)]) (N := N_behind) (sc := defScope s_behind) (by decide +kernel)) (fun _ _ _ _ _ => (pg_name (i := 4) sc_behind.nd rfl (Or.inl rfl))) (fun _ _ _ _ _ => (pts_one (pt_cmpR (r := rIn K true) op_notIn_seq (pv 4) (pe_op op_cat (pv 2) (pv 3)) (by rfl)))) (fun _ _ _ _ _ => (pv 4))) pa_nil)) pk_nil))))))))), ?_⟩
    obtain ⟨dx, d, xs, hb0, hd, hT⟩ := id hP
    obtain ⟨dxa, aw, au, al, ab, ha0, hw, hu, hl, hb⟩ := id hA
    -- on
    refine ⟨_, rfl, b, _, dx, _, _, rfl, hb0, T.cl_Plan, T.na_Plan_demands, rfl, d, rfl, ⟨_, hd⟩, fun Do nDo => lc_tup (K := K) (a := d) (xs := xs) (fun i H' => Same H H' ∧ H' Do = some (.lst ((waysL (bares (rs.take i)) onS).map V.str))) ⟨same_upd nDo, upd_same⟩ (fun i H' _ h => tup_same h.1 hd) ?_ ?_⟩
    · rintro i x H1 hi ⟨s1, w1⟩
      obtain ⟨t, r, rfl, he, ht⟩ := hT.get hi
      refine ⟨t, _, rfl, SqT.of (s1 _ _ (ht)), rfl, _, _, rfl, _, _, rfl, _, _, rfl, rfl, rfl, ?_⟩
      refine ⟨_, rfl, rfl, _, rfl, ?_⟩
      rw [take_snoc he, show bares (rs.take i ++ [r]) = bares (rs.take i) ++ [bare r] from List.map_append, UW.dec_str]
      unfold waysL at w1 ⊢
      rw [List.filter_append, List.map_append, List.map_append]
      by_cases c : r.2.1 = onS
      · rw [decide_eq_true c, List.filter_cons_of_pos (p := fun (d : Str × Str) => decide (d.2 = onS)) (decide_eq_true c)]
        refine iteT ⟨_, rfl, _, w1, ?_, Same.own (q := Do) (H1 := H1) s1 (mut_keep rfl) nDo, by rw [upd_same]; rfl⟩
        rw [List.length_map, List.length_map]
        refine Nat.lt_of_le_of_lt (List.length_filter_le _ _) ?_
        rw [List.length_map]
        exact Nat.lt_of_le_of_lt (List.length_take_le' ..) (small1000 (by omega))
      · rw [decide_eq_false c, List.filter_cons_of_neg (p := fun (d : Str × Str) => decide (d.2 = onS)) (by rw [show decide ((bare r).2 = onS) = false from decide_eq_false c]; exact Bool.false_ne_true), List.filter_nil, List.map_nil, List.map_nil, List.append_nil]
        exact iteF ⟨s1, w1⟩
    rintro H2 ⟨s2, wDo⟩
    rw [hT.len, List.take_length] at wDo
    -- off
    refine ⟨_, rfl, b, _, dx, _, _, rfl, (s2 _ _ hb0), T.cl_Plan, T.na_Plan_demands, rfl, d, rfl, ⟨_, (tup_same s2 hd)⟩, fun Df nDf => lc_tup (K := K) (a := d) (xs := xs) (fun i H' => Same H2 H' ∧ H' Df = some (.lst ((waysL (bares (rs.take i)) offS).map V.str))) ⟨same_upd nDf, upd_same⟩ (fun i H' _ h => tup_same h.1 (tup_same s2 hd)) ?_ ?_⟩
    · rintro i x H1 hi ⟨s1, w1⟩
      obtain ⟨t, r, rfl, he, ht⟩ := hT.get hi
      refine ⟨t, _, rfl, SqT.of (s1 _ _ (s2 _ _ ht)), rfl, _, _, rfl, _, _, rfl, _, _, rfl, rfl, rfl, ?_⟩
      refine ⟨_, rfl, rfl, _, rfl, ?_⟩
      rw [take_snoc he, show bares (rs.take i ++ [r]) = bares (rs.take i) ++ [bare r] from List.map_append, UW.dec_str]
      unfold waysL at w1 ⊢
      rw [List.filter_append, List.map_append, List.map_append]
      by_cases c : r.2.1 = offS
      · rw [decide_eq_true c, List.filter_cons_of_pos (p := fun (d : Str × Str) => decide (d.2 = offS)) (decide_eq_true c)]
        refine iteT ⟨_, rfl, _, w1, ?_, Same.own (q := Df) (H1 := H1) s1 (mut_keep rfl) nDf, by rw [upd_same]; rfl⟩
        rw [List.length_map, List.length_map]
        refine Nat.lt_of_le_of_lt (List.length_filter_le _ _) ?_
        rw [List.length_map]
        exact Nat.lt_of_le_of_lt (List.length_take_le' ..) (small1000 (by omega))
      · rw [decide_eq_false c, List.filter_cons_of_neg (p := fun (d : Str × Str) => decide (d.2 = offS)) (by rw [show decide ((bare r).2 = offS) = false from decide_eq_false c]; exact Bool.false_ne_true), List.filter_nil, List.map_nil, List.map_nil, List.append_nil]
        exact iteF ⟨s1, w1⟩
    rintro H3 ⟨s3, wDf⟩
    rw [hT.len, List.take_length] at wDf
    have s03 := s2.trans s3
    have lon : (onL rs).length ≤ 40 := by
      unfold onL waysL
      rw [List.length_map]
      refine Nat.le_trans (List.length_filter_le _ _) ?_
      rw [List.length_map]
      exact frs
    have loff : (offL rs).length ≤ 40 := by
      unfold offL waysL
      rw [List.length_map]
      refine Nat.le_trans (List.length_filter_le _ _) ?_
      rw [List.length_map]
      exact frs
    change H2 Do = some (.lst ((onL rs).map V.str)) at wDo
    change H3 Df = some (.lst ((offL rs).map V.str)) at wDf
    have sub : ∀ {zs : List Str}, zs.Nodup → (∀ z ∈ zs, z ∈ ns) → zs.length ≤ 16 := fun hn hs => Nat.le_trans (nodup_le _ _ hn hs) fns
    -- set(stand.wished) | set(on)
    refine ⟨_, rfl, a, _, dxa, _, _, rfl, s03 _ _ ha0, T.cl_Stand, T.na_Stand_wished, rfl, aw, s.wished, rfl, .inr (tup_same s03 hw), by omega, fun p1 ds1 np1 nd1 mem1 len1 => ?_⟩
    generalize hE4 : upd H3 p1 _ = H4
    have w4 := new_at hE4
    have s4 := new_same hE4 np1
    refine ⟨_, rfl, Do, onL rs, rfl, .inl (SqL.of (s4 _ _ (s3 _ _ wDo))), by omega, fun p2 ds2 np2 nd2 mem2 len2 => ?_⟩
    generalize hE5 : upd H4 p2 _ = H5
    have w5 := new_at hE5
    have s5 := new_same hE5 np2
    have l1 := sub nd1 fun z hz => hW z ((mem1 z).mp hz)
    have l2 := sub nd2 fun z hz => hO z ((mem2 z).mp hz)
    refine ⟨p1, p2, ds1, ds2, rfl, rfl, ne_some w4 np2, s5 _ _ w4, w5, by omega, fun p3 zs np3 nd3 both => ?_⟩
    generalize hE6 : upd H5 p3 _ = H6
    have w6 := new_at hE6
    have s6 := new_same hE6 np3
    -- - set(off)
    refine ⟨_, rfl, Df, offL rs, rfl, .inl (SqL.of (s6 _ _ (s5 _ _ (s4 _ _ wDf)))), by omega, fun p4 ds4 np4 nd4 mem4 len4 => ?_⟩
    generalize hE7 : upd H6 p4 _ = H7
    have w7 := new_at hE7
    have s7 := new_same hE7 np4
    have l3 := sub nd3 fun z hz => ((both.1 z).mp hz).elim (fun y => hW z ((mem1 z).mp y)) fun y => hO z ((mem2 z).mp y)
    refine ⟨p3, p4, zs, ds4, rfl, rfl, ne_some w6 np4, s7 _ _ w6, w7, by omega, fun p5 ws np5 nd5 less => ?_⟩
    generalize hE8 : upd H7 p5 _ = H8
    have w8 := new_at hE8
    have s8 := new_same hE8 np5
    have l5 : ws.length ≤ 16 := Nat.le_trans less.2 l3
    refine ⟨p5, ws, rfl, w8, by omega, fun ys p6 pm sorted np6 => ?_⟩
    generalize hE9 : upd H8 p6 _ = H9
    have w9 := new_at hE9
    have s9 := new_same hE9 np6
    have wish : ys = (bh ns s rs).wished := by
      have e1 : ys = srt ws := srt_of pm sorted
      rw [e1]
      refine (srt_uniq ((List.perm_ext_iff_of_nodup ((srt_nodup nns).filter _) nd5).mpr fun x => ?_) (List.Pairwise.sublist List.filter_sublist (srt_pw ns))).symm
      rw [List.mem_filter, srt_mem, less.1 x, both.1 x, mem1 x, mem2 x, mem4 x]
      exact ⟨fun z => of_decide_eq_true z.2, fun z => ⟨z.1.elim (hW x) (hO x), decide_eq_true z⟩⟩
    subst wish
    refine ⟨p6, _, rfl, .inl ⟨SqL.of w9, fun t1 nt1 => ?_⟩⟩
    generalize hE10 : upd H9 t1 _ = H10
    have w10 := new_at hE10
    have s10 := new_same hE10 nt1
    have s310 : Same H3 H10 := ((((((s4.trans s5).trans s6).trans s7).trans s8).trans s9).trans s10)
    have s010 := s03.trans s310
    -- up
    refine ⟨_, rfl, a, _, dxa, _, _, rfl, s010 _ _ ha0, T.cl_Stand, T.na_Stand_up, rfl, ?_⟩
    -- later
    refine ⟨_, rfl, a, _, dxa, _, _, rfl, s010 _ _ ha0, T.cl_Stand, T.na_Stand_later, rfl, al, rfl, ⟨_, tup_same s010 hl⟩, fun Dl nDl => lc_tup (K := K) (a := al) (xs := s.later.map V.str) (fun i H' => Same H10 H' ∧ H' Dl = some (.lst (((s.later.take i).filter fun x => decide (x ∉ onL rs ++ offL rs)).map V.str))) ⟨same_upd nDl, upd_same⟩ (fun i H' _ h => tup_same h.1 (tup_same s010 hl)) ?_ ?_⟩
    · rintro i x H1 hi ⟨s1, w1⟩
      obtain ⟨y, hy, rfl⟩ := map_str_get hi
      have sx := s310.trans s1
      refine ⟨rfl, _, rfl, _, rfl, _, rfl, Do, Df, _, _, rfl, rfl, sx _ _ (s3 _ _ wDo), sx _ _ wDf, by rw [List.length_map, List.length_map]; exact Nat.le_of_lt (small1000 (by omega)), fun c nc => ?_⟩
      rw [← List.map_append]
      generalize hEc : upd H1 c _ = Hc
      have wc : Hc c = some (.lst ((onL rs ++ offL rs).map V.str)) := new_at hEc
      have sc := new_same hEc nc
      refine ⟨c, _, rfl, .inl (SqL.of wc), rfl, strs_flat _, _, rfl, ?_⟩
      show if (if true = true then !inV (.str y) ((onL rs ++ offL rs).map V.str) else _) = true then _ else _
      rw [if_pos rfl, inV_str, take_snoc hy, List.filter_append, List.map_append]
      by_cases cy : y ∈ onL rs ++ offL rs
      · rw [decide_eq_true cy, List.filter_cons_of_neg (p := fun x => decide (x ∉ onL rs ++ offL rs)) (by rw [decide_eq_false (fun z => z cy)]; exact Bool.false_ne_true), List.filter_nil, List.map_nil, List.append_nil]
        exact iteF ⟨s1.trans sc, sc _ _ w1⟩
      · rw [decide_eq_false cy, List.filter_cons_of_pos (p := fun x => decide (x ∉ onL rs ++ offL rs)) (decide_eq_true cy)]
        refine iteT ⟨_, rfl, _, sc _ _ w1, ?_, Same.own (q := Dl) (H1 := Hc) (s1.trans sc) (mut_keep rfl) nDl, by rw [upd_same]; rfl⟩
        rw [List.length_map]
        exact Nat.lt_of_le_of_lt (List.length_filter_le _ _) (Nat.lt_of_le_of_lt (List.length_take_le' ..) (small1000 (by omega)))
    rintro H11 ⟨s11, wDl⟩
    rw [List.length_map, List.take_length] at wDl
    refine ⟨Dl, _, rfl, .inl ⟨SqL.of wDl, fun t2 nt2 => ?_⟩⟩
    generalize hE12 : upd H11 t2 _ = H12
    have w12 := new_at hE12
    have s12 := new_same hE12 nt2
    have s312 : Same H3 H12 := (s310.trans s11).trans s12
    have s012 := s03.trans s312
    -- back
    refine ⟨_, rfl, a, _, dxa, _, _, rfl, s012 _ _ ha0, T.cl_Stand, T.na_Stand_back, rfl, ab, rfl, ⟨_, tup_same s012 hb⟩, fun Db nDb => lc_tup (K := K) (a := ab) (xs := s.back.map V.str) (fun i H' => Same H12 H' ∧ H' Db = some (.lst (((s.back.take i).filter fun x => decide (x ∉ onL rs ++ offL rs)).map V.str))) ⟨same_upd nDb, upd_same⟩ (fun i H' _ h => tup_same h.1 (tup_same s012 hb)) ?_ ?_⟩
    · rintro i x H1 hi ⟨s1, w1⟩
      obtain ⟨y, hy, rfl⟩ := map_str_get hi
      have sx := s312.trans s1
      refine ⟨rfl, _, rfl, _, rfl, _, rfl, Do, Df, _, _, rfl, rfl, sx _ _ (s3 _ _ wDo), sx _ _ wDf, by rw [List.length_map, List.length_map]; exact Nat.le_of_lt (small1000 (by omega)), fun c nc => ?_⟩
      rw [← List.map_append]
      generalize hEc : upd H1 c _ = Hc
      have wc : Hc c = some (.lst ((onL rs ++ offL rs).map V.str)) := new_at hEc
      have sc := new_same hEc nc
      refine ⟨c, _, rfl, .inl (SqL.of wc), rfl, strs_flat _, _, rfl, ?_⟩
      show if (if true = true then !inV (.str y) ((onL rs ++ offL rs).map V.str) else _) = true then _ else _
      rw [if_pos rfl, inV_str, take_snoc hy, List.filter_append, List.map_append]
      by_cases cy : y ∈ onL rs ++ offL rs
      · rw [decide_eq_true cy, List.filter_cons_of_neg (p := fun x => decide (x ∉ onL rs ++ offL rs)) (by rw [decide_eq_false (fun z => z cy)]; exact Bool.false_ne_true), List.filter_nil, List.map_nil, List.append_nil]
        exact iteF ⟨s1.trans sc, sc _ _ w1⟩
      · rw [decide_eq_false cy, List.filter_cons_of_pos (p := fun x => decide (x ∉ onL rs ++ offL rs)) (decide_eq_true cy)]
        refine iteT ⟨_, rfl, _, sc _ _ w1, ?_, Same.own (q := Db) (H1 := Hc) (s1.trans sc) (mut_keep rfl) nDb, by rw [upd_same]; rfl⟩
        rw [List.length_map]
        exact Nat.lt_of_le_of_lt (List.length_filter_le _ _) (Nat.lt_of_le_of_lt (List.length_take_le' ..) (small1000 (by omega)))
    rintro H13 ⟨s13, wDb⟩
    rw [List.length_map, List.take_length] at wDb
    refine ⟨Db, _, rfl, .inl ⟨SqL.of wDb, fun t3 nt3 => ?_⟩⟩
    generalize hE14 : upd H13 t3 _ = H14
    have w14 := new_at hE14
    have s14 := new_same hE14 nt3
    refine ⟨rfl, rfl, fun x dxx nx ndx ne => ⟨x, dxx, _, _, _, _, rfl, upd_same, fun H15 w15 k15 => ⟨rfl, ?_⟩⟩⟩
    have s15 : Same H14 H15 := made_same nx ndx ne k15
    have s1215 := (s13.trans s14).trans s15
    have s014 := (s012.trans s13).trans s14
    refine q x H15 (s014.free nx) (s014.trans s15) ⟨dxx, t1, au, t2, t3, w15, ?_, ?_, ?_, ?_⟩
    · exact SqT.of (s1215 _ _ (s12 _ _ (s11 _ _ w10)))
    · exact tup_same (s014.trans s15) hu
    · exact SqT.of (s1215 _ _ w12)
    · exact SqT.of (s15 _ _ w14)

-- SPLIT
/-! ### the stand of four lists -/
theorem ix_or {X : Cx} {r1 r2 : R2} (h1 : IxR X r1) (h2 : IxR X r2) : IxR X (UO.rOr r1 r2) := fun value slice pins s σ H x y v u Q I rx ry h hs => h.elim (fun z => h1 value slice pins s σ H x y v u Q I rx ry z hs) fun z => h2 value slice pins s σ H x y v u Q I rx ry z hs
/-- a list or a tuple of four lists of names -/
def FourAt (K : PySem.W.Frag) (H : Hp) (t : Addr) (s : SF) : Prop := ∃ a1 a2 a3 a4 : Addr, (SqL K H t [.ref a1, .ref a2, .ref a3, .ref a4] ∨ SqT K H t [.ref a1, .ref a2, .ref a3, .ref a4]) ∧ SAt H a1 s.wished ∧ SAt H a2 s.up ∧ SAt H a3 s.later ∧ SAt H a4 s.back
theorem FourAt.same {H H' : Hp} {t : Addr} {s : SF} (h : FourAt K H t s) (e : Same H H') : FourAt K H' t s := by
  obtain ⟨a1, a2, a3, a4, h0, h1, h2, h3, h4⟩ := h
  exact ⟨a1, a2, a3, a4, h0.imp (fun z => SqL.ext z e) (tup_same e), e _ _ h1, e _ _ h2, e _ _ h3, e _ _ h4⟩
def sp_law_stand (K : PySem.W.Frag) : Sp := fun vs H Q _ => ∃ (t : Addr) (s : SF), vs = [.ref t] ∧ FourAt K H t s ∧ ∀ D H', H D = none → Same H H' → StandAt K H' D s → Q (.ref D) H'
theorem ok_law_stand (T : Txt K mg) : FnOk P w K mg base CX0 3 (He.fAd K ("_law_stand", none)) T.d_law_stand ["_law_four"] (sp_law_stand K) := by
  refine T.F_law_stand.ok sc_law_stand (fun vs H Q E h => ?_) (fun cdv A outer s H vs Q E hr h => ?_)
  · obtain ⟨t, s, rfl, _⟩ := h
    rfl
  · obtain ⟨t, s, rfl, hF, q⟩ := h
    refine ⟨_, PSs.nox (pss_one (ps_ret (pe_makeK0 T.mk_Stand (ok_Stand_init T) (hr.mono (by decide)) (by rfl) T.m_Stand T.kb_Stand_init_1_wished_up_later_back.choose_spec pass0 (pk_cons (pe_callTy (T := "tuple")  call_tuple_of (by rfl) T.n_tuple (by decide +kernel) (pa_cons (pe_ix (ix_or ix_list ix_tup) (pv 0) pe_int (fun _ _ => rfl)) pa_nil)) (pk_cons (pe_callTy (T := "tuple")  call_tuple_of (by rfl) T.n_tuple (by decide +kernel) (pa_cons (pe_ix (ix_or ix_list ix_tup) (pv 0) pe_int (fun _ _ => rfl)) pa_nil)) (pk_cons (pe_callTy (T := "tuple")  call_tuple_of (by rfl) T.n_tuple (by decide +kernel) (pa_cons (pe_ix (ix_or ix_list ix_tup) (pv 0) pe_int (fun _ _ => rfl)) pa_nil)) (pk_cons (pe_callTy (T := "tuple")  call_tuple_of (by rfl) T.n_tuple (by decide +kernel) (pa_cons (pe_ix (ix_or ix_list ix_tup) (pv 0) pe_int (fun _ _ => rfl)) pa_nil)) pk_nil))))))), ?_⟩
    obtain ⟨a1, a2, a3, a4, h0, h1, h2, h3, h4⟩ := hF
    have ix : ∀ {H' : Hp} {i : Int} {v : V} {Q' : VK}, Same H H' → atI [V.ref a1, V.ref a2, V.ref a3, V.ref a4] i = some v → Q' v H' → UO.rOr (rIxL K) (rIxT K) (.ref t) (.int i) H' Q' := fun {H' i v Q'} e at_ q' => by
      rcases h0 with z | z
      · exact .inl ⟨t, _, i, v, rfl, rfl, SqL.ext z e, at_, q'⟩
      · exact .inr ⟨t, _, i, v, rfl, rfl, tup_same e z, at_, q'⟩
    refine ⟨_, rfl, ix (Same.refl _) at0 ⟨a1, _, rfl, .inl ⟨SqL.of h1, fun t1 n1 => ?_⟩⟩⟩
    generalize hE1 : upd H t1 _ = H1
    have w1 := new_at hE1
    have s1 := new_same hE1 n1
    refine ⟨_, rfl, ix s1 at1 ⟨a2, _, rfl, .inl ⟨SqL.of (s1 _ _ h2), fun t2 n2 => ?_⟩⟩⟩
    generalize hE2 : upd H1 t2 _ = H2
    have w2 := new_at hE2
    have s2 := new_same hE2 n2
    have s02 := s1.trans s2
    refine ⟨_, rfl, ix s02 at2 ⟨a3, _, rfl, .inl ⟨SqL.of (s02 _ _ h3), fun t3 n3 => ?_⟩⟩⟩
    generalize hE3 : upd H2 t3 _ = H3
    have w3 := new_at hE3
    have s3 := new_same hE3 n3
    have s03 := s02.trans s3
    refine ⟨_, rfl, ix s03 at3 ⟨a4, _, rfl, .inl ⟨SqL.of (s03 _ _ h4), fun t4 n4 => ?_⟩⟩⟩
    generalize hE4 : upd H3 t4 _ = H4
    have w4 := new_at hE4
    have s4 := new_same hE4 n4
    refine ⟨rfl, rfl, fun x dx nx ndx ne => ⟨x, dx, _, _, _, _, rfl, upd_same, fun H5 w5 k5 => ⟨rfl, ?_⟩⟩⟩
    have s5 : Same H4 H5 := made_same nx ndx ne k5
    have s04 := s03.trans s4
    exact q x H5 (s04.free nx) (s04.trans s5) ⟨dx, t1, t2, t3, t4, w5, SqT.of (s5 _ _ (s4 _ _ (s3 _ _ (s2 _ _ w1)))), SqT.of (s5 _ _ (s4 _ _ (s3 _ _ w2))), SqT.of (s5 _ _ (s4 _ _ w3)), SqT.of (s5 _ _ w4)⟩

-- SPLIT
/-! ### the least name with both ways -/
def Both (ds : List (Str × Str)) (x : Str) : Prop := (x, onS) ∈ ds ∧ (x, offS) ∈ ds
def isC (ds : List (Str × Str)) (d : Str × Str) : Bool := decide (d.2 = onS) && decide ((d.1, offS) ∈ ds)
theorem both_mem (ds : List (Str × Str)) (x : Str) : x ∈ (ds.filter (isC ds)).map (·.1) ↔ Both ds x := by
  refine ⟨fun h => ?_, fun h => ?_⟩
  · obtain ⟨d, hd, rfl⟩ := List.mem_map.mp h
    obtain ⟨h1, h2⟩ := List.mem_filter.mp hd
    obtain ⟨h3, h4⟩ := Bool.and_eq_true_iff.mp h2
    have h3 := of_decide_eq_true h3
    refine ⟨?_, of_decide_eq_true h4⟩
    rw [← h3]
    exact h1
  · exact List.mem_map.mpr ⟨(x, onS), List.mem_filter.mpr ⟨h.1, Bool.and_eq_true_iff.mpr ⟨decide_eq_true rfl, decide_eq_true h.2⟩⟩, rfl⟩
def sp_clash_in (K : PySem.W.Frag) : Sp := fun vs H Q _ => ∃ (a : Addr) (xs : List V) (ds : List (Str × Str)), vs = [.ref a] ∧ SqL K H a xs ∧ Prs K H xs ds ∧ ds.length ≤ 100 ∧ (∀ d ∈ ds, Ok2 d) ∧
  ∀ o H', Least (Both ds) o → Same H H' → Q (optV o) H'
theorem ok_clash_in (T : Txt K mg) : FnOk P w K mg base CX0 1 (He.fAd K ("clash_in", none)) T.d_clash_in ["demands"] (sp_clash_in K) := by
  refine T.F_clash_in.ok sc_clash_in (fun vs H Q E h => ?_) (fun cdv A outer s H vs Q E hr h => ?_)
  · obtain ⟨a, xs, ds, rfl, _⟩ := h
    rfl
  · obtain ⟨a, xs, ds, rfl, hS, hP, hl, hk, q⟩ := h
    refine ⟨_, PSs.nox (pss_one (ps_ret (pe_callBK (id := "min") (UP.cr_minS rfl hr.units) (by rfl) T.n_min (by decide +kernel) (pa_cons (pe_lc (own := [("name", 1), ("way", 2)]) (g := gTup K 2 (gCons (gName 1) (gCons (gName 2) gNil))) (by rfl) sc_clash_in.nd (pi_list (pv 0)) (blkOk_by (own := [("name", 1), ("way", 2)]) (N := N_clash_in) (sc := defScope s_clash_in) (by decide +kernel)) (fun _ _ _ _ _ => by exact (pg_tup rfl (pgs_cons (pg_name (i := 1) sc_clash_in.nd rfl (Or.inl rfl)) (pgs_cons (pg_name (i := 2) sc_clash_in.nd rfl (Or.inl rfl)) pgs_nil)))) (fun _ _ _ _ _ => (pts_one (PW.pt (pw_and (pt_cmpR op_eq (pv 2) pe_str (nomark _)) (pw_and1 (pt_cmpR (r := rInD K) (op_inD (UP.un65 hr)) (pe_tup (pa_cons (pv 1) (pa_cons pe_str pa_nil))) (pv 0) (by rfl))))))) (fun _ _ _ _ _ => (pv 1))) pa_nil) (pk_cons pe_non pk_nil)))), ?_⟩
    refine ⟨_, rfl, a, rfl, ⟨_, hS⟩, fun D nD => ?_⟩
    refine lc_list (xs := xs) (fun i H' => Same H H' ∧ H' D = some (.lst ((((ds.take i).filter (isC ds)).map (·.1)).map V.str))) ⟨same_upd nD, upd_same⟩ (fun i H' _ h => SqL.ext hS h.1) ?_ ?_
    · rintro i x H2 hi ⟨s2, w2⟩
      obtain ⟨t, d, rfl, hd, ht⟩ := hP.get hi
      refine ⟨t, _, rfl, tup_same s2 ht, rfl, _, _, rfl, _, _, rfl, rfl, rfl, ?_⟩
      rw [take_snoc hd, List.filter_append, List.map_append, List.map_append]
      have dm : d ∈ ds := List.mem_of_getElem? hd
      refine ⟨_, rfl, rfl, _, rfl, ?_⟩
      by_cases c : d.2 = onS
      · rw [show decide (V.str d.2 = V.str onS) = true from decide_eq_true (by rw [c])]
        refine iteT ?_
        refine ⟨_, rfl, by show 2 ≤ sizeLine; decide, fun t2 n2 => ⟨_, rfl, ?_⟩⟩
        have s3 := s2.trans (same_upd (o := .tup [V.str d.1, V.str offS]) n2)
        refine inD2 (d := (d.1, offS)) (SqT.of upd_same) (SqL.ext hS s3) (hP.same s3) ⟨(hk d dm).1, ok_off⟩ hk ⟨_, rfl, ?_⟩
        have w3 := same_upd (o := .tup [V.str d.1, V.str offS]) n2 _ _ w2
        by_cases c2 : (d.1, offS) ∈ ds
        · rw [decide_eq_true c2]
          refine iteT ⟨_, rfl, _, w3, ?_, Same.own (q := D) s3 (mut_keep rfl) nD, ?_⟩
          · rw [List.length_map, List.length_map]
            refine Nat.lt_of_le_of_lt (List.length_filter_le _ _) (Nat.lt_of_le_of_lt (List.length_take_le' ..) (small1000 (by omega)))
          · rw [upd_same, List.filter_cons_of_pos (p := isC ds) (Bool.and_eq_true_iff.mpr ⟨decide_eq_true c, decide_eq_true c2⟩)]
            rfl
        · rw [decide_eq_false c2]
          refine iteF ⟨s3, ?_⟩
          rw [List.filter_cons_of_neg (p := isC ds) (fun z => c2 (of_decide_eq_true (Bool.and_eq_true_iff.mp z).2)), List.filter_nil, List.map_nil, List.map_nil, List.append_nil]
          exact w3
      · rw [show decide (V.str d.2 = V.str onS) = false from decide_eq_false fun z => c (by injection z)]
        refine iteF (iteF ⟨s2, ?_⟩)
        rw [List.filter_cons_of_neg (p := isC ds) (fun z => c (of_decide_eq_true (Bool.and_eq_true_iff.mp z).1)), List.filter_nil, List.map_nil, List.map_nil, List.append_nil]
        exact w2
    · rintro H2 ⟨s2, w2⟩
      rw [List.take_of_length_le (by rw [hP.len]; exact Nat.le_refl _)] at w2
      exact ⟨D, _, rfl, rfl, SqL.of w2, fun o ho => q o H2 (ho.iff (both_mem ds)) s2⟩

-- SPLIT
/-! ### the core of a plan, wants, what is open behind -/
/-- what is asked of a shelf -/
structure Sh (us : List (Str × UF)) : Prop where
  nms : Nms us
  few : ∀ p ∈ us, p.2.needs.length ≤ 100 ∧ p.2.needs.Nodup
  short : ∀ p ∈ us, ∀ x ∈ p.2.needs, x.length ≤ 100
  likes : ∀ p ∈ us, p.2.wants.length ≤ 100
  okW : ∀ p ∈ us, ∀ x ∈ p.2.wants, PyData.strOk x = true
  self : ∀ w, w ∉ wt us w
def BothR (us : List (Str × UF)) (ds : List (Str × Str)) (x : Str) : Prop := Reach us ds (x, onS) ∧ Reach us ds (x, offS)
theorem both_reach {us : List (Str × UF)} {ds es : List (Str × Str)} (h : ∀ d, d ∈ es ↔ Reach us ds d) (x : Str) : Both (srtP es) x ↔ BothR us ds x := by
  unfold Both BothR
  rw [srtP_mem, srtP_mem, h, h]
theorem optV_none : optV none = V.non := rfl
def sp_core_on (K : PySem.W.Frag) : Sp := fun vs H Q E => ∃ (p : Addr) (n : Str) (us : List (Str × UF)), vs = [.ref p, .str n] ∧ ShelfAt K H p us ∧ Sh us ∧ n ∈ us.map (·.1) ∧
  (NoLack us [(n, onS)] → (∀ x, ¬ BothR us [(n, onS)] x) → ∀ D ys gs H', H D = none → Same H H' → H' D = some (.lst ys) → TrH H' ys gs → Grown us [] (n, onS, -1) gs → Q (.ref D) H') ∧
  (¬ NoLack us [(n, onS)] → ∀ m d l2 H', H d = none → H' d = some (.xd [("chain", .ref l2), ("missing", .str m)]) → Same H H' → E (.ref (He.ga K "Lack")) (some d) H') ∧
  (∀ x, NoLack us [(n, onS)] → Least (BothR us [(n, onS)]) (some x) → ∀ d H', H d = none → H' d = some (.xd [("name", .str x)]) → Same H H' → E (.ref (He.ga K "Clash")) (some d) H')
theorem ok_core_on (T : Txt K mg) : FnOk P w K mg base (L2N.CX P w) 7 (He.fAd K ("core_on", none)) T.d_core_on ["shelf", "name"] (sp_core_on K) := by
  refine T.F_core_on.ok sc_core_on (fun vs H Q E h => ?_) (fun cdv A outer s H vs Q E hr h => ?_)
  · obtain ⟨p, n, us, rfl, _⟩ := h
    rfl
  · obtain ⟨p, n, us, rfl, hS, G, hn, q, qL, qC⟩ := h
    refine ⟨_, (pss_cons (ps_set (i := 2) sc_core_on.nd rfl (Or.inl rfl) (pe_call (ok_clash_in T) (hr.mono (by decide)) (by rfl) T.m_clash_in T.F_clash_in.kp T.b_clash_in .nil pass0 (pa_cons (pe_call (ok_followed T) (hr.mono (by decide)) (by rfl) T.m_followed T.F_followed.kp T.b_followed .nil (L2N.passes_call (L2N.takes_of rfl rfl rfl rfl) (fun _ _ _ _ z => z)) (pa_cons (pv 0) (pa_cons (pe_lst (pa_cons (pe_tup (pa_cons (pv 1) (pa_cons pe_str pa_nil))) pa_nil)) pa_nil))) pa_nil)))
      (pss_cons (ps_if (pt_cmpR op_notN (pv 2) pe_non (nomark _))
      (pss_one (L2N.ps_raise (by rfl) (L2N.takes_of rfl rfl rfl rfl) (UX.pm_own T.ox_Clash.own T.ox_Clash.init T.ox_Clash.fn (ok_Clash_init T) (hr.mono (by decide)) T.b_Clash_init pass0 (by rfl) T.m_Clash (pa_cons (pv 2) pa_nil))))
      pss_nil)
      (pss_one (ps_ret (pe_call (ok_spread T) (hr.mono (by decide)) (by rfl) T.m_spread T.F_spread.kp T.b_spread .nil pass0 (pa_cons (pv 0) (pa_cons (pe_lst pa_nil) (pa_cons (pv 1) (pa_cons pe_str (pa_cons (pe_un un_neg pe_int) pa_nil)))))))))), ?_⟩
    have hN := G.nms
    refine ⟨_, rfl, _, rfl, by show 2 ≤ sizeLine; decide, fun t nt => ?_⟩
    generalize hE1 : upd H t _ = H1
    have w1 := new_at hE1
    have s1 := new_same hE1 nt
    refine ⟨by show 1 ≤ sizeLine; decide, fun l nl => ?_⟩
    generalize hE2 : upd H1 l _ = H2
    have w2 := new_at hE2
    have s2 := new_same hE2 nl
    have s02 := s1.trans s2
    have wdn : ∀ d ∈ [(n, onS)], WD us d := fun d hd => by
      rw [List.mem_singleton.mp hd]
      exact ⟨hn, .inl rfl⟩
    refine ⟨p, l, us, _, [(n, onS)], rfl, hS.same s02, hN, fun p hp => (G.few p hp).1, G.short, SqL.of w2, .cons (s2 _ _ w1) .nil, wdn, fun no D ys es H3 nD s3 wD pD hnd hm => ?_, fun no m d l2 H3 nd3 wd3 s3 => qL no m d l2 H3 (s02.free nd3) wd3 (s02.trans s3)⟩
    have s03 := s02.trans s3
    have wdE : ∀ d ∈ srtP es, WD us d := fun d hd => reach_wd wdn ((hm d).mp (srtP_mem.mp hd))
    have few := wd_few hN ((srtP_perm es).nodup_iff.mpr hnd) wdE
    refine ⟨D, ys, srtP es, rfl, SqL.of wD, pD.prs, by omega, fun d hd => wd_ok hN (wdE d hd), fun o H4 ho s4 => ?_⟩
    have s04 := s03.trans s4
    have ho2 := ho.iff (both_reach hm)
    cases o with
    | none =>
      refine ⟨_, rfl, rfl, _, rfl, neF ?_⟩
      refine ⟨_, rfl, by show 0 ≤ sizeLine; decide, fun l0 nl0 => ?_⟩
      generalize hE5 : upd H4 l0 _ = H5
      have w5 := new_at hE5
      have s5 := new_same hE5 nl0
      have s05 := s04.trans s5
      refine ⟨_, rfl, _, rfl, p, l0, n, onS, -1, us, [], [], rfl, hS.same s05, hN, G.few, SqL.of w5, .nil, List.nodup_cons.mpr ⟨List.not_mem_nil, List.nodup_nil⟩, (fun d hd => ?_), fun Dg zs gs H6 nG s6 w6 hG grown => q no ho2 Dg zs gs H6 (s05.free nG) (s05.trans s6) w6 hG grown⟩
      rw [List.mem_singleton.mp hd]
      exact ⟨hn, .inl rfl⟩
    | some x =>
      refine ⟨_, rfl, rfl, _, rfl, ?_⟩
      rw [decide_eq_false (show ¬ optV (some x) = V.non from fun z => nomatch z)]
      refine iteT ⟨_, rfl, by show 1 ≤ 1000; decide, fun a na => ?_⟩
      have hxl : x.length ≤ 100 := by
        have := (hN.nm x (reach_wd wdn ho2.1.1).1).2.2
        omega
      refine ⟨a, x, rfl, hxl, upd_same, fun ex H5 nex ne w5 w5d k5 => ⟨rfl, ex, _, w5, w5d, ?_, ?_⟩⟩
      · rw [upd_ne ne] at nex
        exact nex
      · rw [upd_ne ne] at nex
        refine qC x no ho2 ex _ (s04.free nex) upd_same fun b o e => ?_
        have e2 := s04 _ _ e
        have nb : b ≠ a := ne_some e2 na
        rw [upd_ne (ne_some e2 nex), del_ne nb]
        exact k5 b o nb (by rw [upd_ne nb]; exact e2)
/-- the wants of a name: its own, then those that lost it -/
def wnt (us : List (Str × UF)) (s : SF) (w : Str) : List Str := match fu us w with
  | some u => u.wants ++ (nd us w).filter fun o => decide (o ∈ s.back) && decide (o ∉ u.wants)
  | none => []
def sp_wants_of (K : PySem.W.Frag) : Sp := fun vs H Q _ => ∃ (p a : Addr) (w : Str) (us : List (Str × UF)) (s : SF), vs = [.ref p, .ref a, .str w] ∧ ShelfAt K H p us ∧ Sh us ∧ StandAt K H a s ∧ w ∈ us.map (·.1) ∧
  ∀ D H', H D = none → Same H H' → H' D = some (.lst ((wnt us s w).map V.str)) → (wnt us s w).length ≤ 116 → Q (.ref D) H'
theorem ok_wants_of (T : Txt K mg) : FnOk P w K mg base CX0 4 (He.fAd K ("wants_of", none)) T.d_wants_of ["shelf", "stand", "name"] (sp_wants_of K) := by
  refine T.F_wants_of.ok sc_wants_of (fun vs H Q E h => ?_) (fun cdv A outer s H vs Q E hr h => ?_)
  · obtain ⟨p, a, w, us, s, rfl, _⟩ := h
    rfl
  · obtain ⟨p, a, w, us, s, rfl, hS, G, hA, hw, q⟩ := h
    refine ⟨_, PSs.nox (pss_cons (ps_set (i := 3) sc_wants_of.nd rfl (Or.inr rfl) (pe_callTy (T := "list")  call_list_of (by rfl) T.n_list (by decide +kernel) (pa_cons (pe_fld (pe_meth (pv 0) T.cl_Shelf T.me_Shelf_unit (ok_Shelf_unit T) (hr.mono (by decide)) T.b_Shelf_unit .nil pass0 (pa_cons (pv 2) pa_nil)) rfl) pa_nil)))
      (pss_one (ps_ret (pe_op op_cat (pv 3) (pe_lc (own := [("other", 4)]) (by rfl) sc_wants_of.nd (pi_list (pe_meth (pv 0) T.cl_Shelf T.me_Shelf_needing (ok_Shelf_needing T) (hr.mono (by decide)) T.b_Shelf_needing .nil pass0 (pa_cons (pv 2) pa_nil))) (blkOk_by (own := [("other", 4)]) (N := N_wants_of) (sc := defScope s_wants_of) (by decide +kernel)) (fun _ _ _ _ _ => (pg_name (i := 4) sc_wants_of.nd rfl (Or.inl rfl))) (fun _ _ _ _ _ => by exact (pts_one (PW.pt (pw_and (pt_cmpR (r := rIn K false) op_in_seq (pv 4) (UP.pe_fldK (K := K) (by rfl) (pv 1) (by rfl)) (by rfl)) (pw_and1 (pt_cmpR (r := rIn K true) op_notIn_seq (pv 4) (pv 3) (by rfl))))))) (fun _ _ _ _ _ => (pv 4))))))), ?_⟩
    have hN := G.nms
    obtain ⟨dx, dd, kvs, hp, _⟩ := id hS
    refine ⟨_, rfl, p, dx, _, rfl, hp, rfl, _, rfl, p, w, us, rfl, hS, hN, hw, fun b u hu hB => ?_⟩
    obtain ⟨dxu, n1, n2, n3, n4, r, hb, hn1, hn2, _⟩ := id hB
    have hfu := fu_some hN.nd hu
    refine ⟨b, _, dxu, _, _, rfl, hb, T.cl_Unit, T.na_Unit_wants, rfl, n2, _, rfl, .inr hn2, fun o no => ?_⟩
    generalize hE1 : upd H o _ = H1
    have w1 := new_at hE1
    have s1 := new_same hE1 no
    obtain ⟨dxa, aw, au, al, ab, ha0, haw, hau, hal, hab⟩ := id hA
    refine ⟨_, rfl, _, rfl, p, dx, _, rfl, s1 _ _ hp, rfl, _, rfl, p, w, us, rfl, hS.same s1, hN, hw, fun l H2 nl s2 wl => ?_⟩
    have s02 := s1.trans s2
    refine ⟨l, rfl, ⟨_, SqL.of wl⟩, fun D nD => lc_list (xs := (nd us w).map V.str) (fun i H' => Same H2 H' ∧ H' D = some (.lst ((((nd us w).take i).filter fun o => decide (o ∈ s.back) && decide (o ∉ u.wants)).map V.str))) ⟨same_upd nD, upd_same⟩ (fun i H' _ h => SqL.of (h.1 _ _ wl)) ?_ ?_⟩
    · rintro i x H3 hi ⟨s3, w3⟩
      obtain ⟨c, hc, rfl⟩ := map_str_get hi
      have s03 := s02.trans s3
      have few : ((((nd us w).take i).filter fun o => decide (o ∈ s.back) && decide (o ∉ u.wants)).map V.str).length < sizeLine := by
        rw [List.length_map]
        exact Nat.lt_of_le_of_lt (List.length_filter_le _ _) (Nat.lt_of_le_of_lt (List.length_take_le' ..) (Nat.lt_of_le_of_lt (filt_len hN _) (small1000 (by decide))))
      refine ⟨rfl, _, rfl, _, rfl, a, _, dxa, _, _, rfl, s03 _ _ ha0, T.cl_Stand, T.na_Stand_back, rfl, ab, _, rfl, .inr (tup_same s03 hab), rfl, strs_flat _, _, rfl, ?_⟩
      rw [inV_str, take_filter_snoc _ hc]
      by_cases c1 : c ∈ s.back
      · rw [decide_eq_true c1]
        refine iteT ⟨_, rfl, _, rfl, o, _, rfl, .inl (SqL.of (s3 _ _ (s2 _ _ w1))), rfl, strs_flat _, _, rfl, ?_⟩
        show if (if true = true then !inV (.str c) (u.wants.map V.str) else _) = true then _ else _
        rw [if_pos rfl, inV_str]
        by_cases c2 : c ∈ u.wants
        · rw [decide_eq_true c2]
          refine iteF ⟨s3, ?_⟩
          rw [decide_eq_false (fun z => z c2), if_neg (by decide), List.append_nil]
          exact w3
        · rw [decide_eq_false c2]
          refine iteT ⟨_, rfl, _, w3, few, Same.own (q := D) s3 (mut_keep rfl) nD, ?_⟩
          rw [decide_eq_true c2, upd_same, if_pos (by decide), List.map_append]
          rfl
      · rw [decide_eq_false c1]
        refine iteF (iteF ⟨s3, ?_⟩)
        rw [if_neg (by rw [Bool.false_and]; exact Bool.false_ne_true), List.append_nil]
        exact w3
    rintro H3 ⟨s3, w3⟩
    rw [List.length_map, List.take_length] at w3
    have s03 := s02.trans s3
    have l1 : u.wants.length ≤ 100 := G.likes _ hu
    have l2 : ((nd us w).filter fun o => decide (o ∈ s.back) && decide (o ∉ u.wants)).length ≤ 16 := Nat.le_trans (List.length_filter_le _ _) (filt_len hN _)
    refine ⟨o, D, _, _, rfl, rfl, s3 _ _ (s2 _ _ w1), w3, by rw [List.length_map, List.length_map]; exact Nat.le_of_lt (small1000 (by omega)), fun D3 nD3 => ?_⟩
    generalize hE4 : upd H3 D3 _ = H4
    have w4 := new_at hE4
    have s4 := new_same hE4 nD3
    have e : wnt us s w = u.wants ++ (nd us w).filter fun o => decide (o ∈ s.back) && decide (o ∉ u.wants) := by
      unfold wnt
      rw [hfu]
    rw [← List.map_append, ← e] at w4
    refine q D3 H4 (s03.free nD3) (s03.trans s4) w4 ?_
    rw [e, List.length_append]
    omega

-- SPLIT
/-! ### what is open behind, whether a knot comes -/
def sp_open_behind (K : PySem.W.Frag) : Sp := fun vs H Q _ => ∃ (a l : Addr) (n : Str) (s : SF) (xs : List V) (rs : List Row) (ns : List Str), vs = [.ref a, .str n, .ref l] ∧ StandAt K H a s ∧ SqL K H l xs ∧ TrH H xs rs ∧ ns.Nodup ∧ ns.length ≤ 16 ∧ (∀ x ∈ s.wished, x ∈ ns) ∧ (∀ x ∈ onL rs, x ∈ ns) ∧ rs.length ≤ 40 ∧ s.wished.length ≤ 40 ∧ s.later.length ≤ 100 ∧ s.back.length ≤ 100 ∧
  ∀ D H', H D = none → Same H H' → H' D = some (.lst ((openL (bh ns s rs)).map V.str)) → Q (.ref D) H'
theorem ok_open_behind (T : Txt K mg) : FnOk P w K mg base CX0 8 (He.fAd K ("open_behind", none)) T.d_open_behind ["stand", "name", "demands"] (sp_open_behind K) := by
  refine T.F_open_behind.ok sc_open_behind (fun vs H Q E h => ?_) (fun cdv A outer s H vs Q E hr h => ?_)
  · obtain ⟨a, l, n, s, xs, rs, ns, rfl, _⟩ := h
    rfl
  · obtain ⟨a, l, n, s, xs, rs, ns, rfl, hA, hl, hT, nns, fns, hW, hO, frs, fw, fl, fb, q⟩ := h
    refine ⟨_, PSs.nox (pss_one (ps_ret (pe_call (ok_open_in T) (hr.mono (by decide)) (by rfl) T.m_open_in T.F_open_in.kp T.b_open_in .nil pass0 (pa_cons (pe_call (ok_behind T) (hr.mono (by decide)) (by rfl) T.m_behind T.F_behind.kp T.b_behind .nil pass0 (pa_cons (pv 0) (pa_cons (pe_make T.mk_Plan (ok_Plan_init T) (hr.mono (by decide)) (by rfl) T.m_Plan T.bp_Plan_init_4.choose_spec.2 T.bp_Plan_init_4.choose_spec.1 pass0 (pa_cons (pv 1) (pa_cons pe_str (pa_cons (pe_callTy (T := "tuple")  call_tuple_of (by rfl) T.n_tuple (by decide +kernel) (pa_cons (pv 2) pa_nil)) pa_nil)))) pa_nil))) pa_nil)))), ?_⟩
    refine ⟨_, rfl, _, rfl, _, rfl, l, xs, rfl, .inl ⟨hl, fun d nd => ?_⟩⟩
    generalize hE3 : upd H d _ = H3
    have w3 := new_at hE3
    have s3 := new_same hE3 nd
    refine fun x dx nx ndx ne => ⟨x, dx, _, _, _, _, rfl, upd_same, fun H4 w4 k4 => ⟨rfl, ?_⟩⟩
    have s4 : Same H3 H4 := made_same nx ndx ne k4
    have s04 := s3.trans s4
    refine ⟨a, x, _, n, onS, s, rs, ns, rfl, hA.same s04, ⟨dx, d, xs, w4, SqT.of (s4 _ _ w3), (hT.same s3).same s4⟩, nns, fns, hW, hO, frs, fw, fl, fb, fun D H5 nD s5 hD => ?_⟩
    refine ⟨D, _, rfl, hD, ?_, fun D2 H6 nD2 s6 w6 => q D2 H6 ((s04.trans s5).free nD2) ((s04.trans s5).trans s6) w6⟩
    refine Nat.le_trans (List.length_filter_le _ _) ?_
    rw [srt_len]
    omega
/-- those that are to come up, if the demands ds come -/
def kc (s : SF) (ds : List (Str × Str)) : List Str := (waysL ds onS ++ s.wished.filter fun x => decide (x ∉ waysL ds onS) && decide ((x, offS) ∉ ds)).filter fun x => decide (x ∉ s.up)
def sp_knot_comes (K : PySem.W.Frag) : Sp := fun vs H Q _ => ∃ (p a l : Addr) (us : List (Str × UF)) (s : SF) (xs : List V) (ds : List (Str × Str)), vs = [.ref p, .ref a, .ref l] ∧ ShelfAt K H p us ∧ Sh us ∧ StandAt K H a s ∧ s.wished.Nodup ∧ (∀ x ∈ s.wished, x ∈ us.map (·.1)) ∧ SqL K H l xs ∧ PrH H xs ds ∧ ds.Nodup ∧ (∀ d ∈ ds, WD us d) ∧
  ∀ b H', Same H H' → (b = true ↔ Knotted (wt us) (kc s ds)) → Q (.bl b) H'
theorem ok_knot_comes (T : Txt K mg) : FnOk P w K mg base CX0 6 (He.fAd K ("knot_comes", none)) T.d_knot_comes ["shelf", "stand", "come"] (sp_knot_comes K) := by
  refine T.F_knot_comes.ok sc_knot_comes (fun vs H Q E h => ?_) (fun cdv A outer s H vs Q E hr h => ?_)
  · obtain ⟨p, a, l, us, s, xs, ds, rfl, _⟩ := h
    rfl
  · obtain ⟨p, a, l, us, s, xs, ds, rfl, hS, G, hA, wn, wsub, hl, hP, dn, hW, q⟩ := h
    refine ⟨_, PSs.nox (pss_cons (ps_set (i := 3) sc_knot_comes.nd rfl (Or.inr rfl) (pe_lc (own := [("name", 5), ("way", 6)]) (g := gTup K 2 (gCons (gName 5) (gCons (gName 6) gNil))) (by rfl) sc_knot_comes.nd (pi_list (pv 2)) (blkOk_by (own := [("name", 5), ("way", 6)]) (N := N_knot_comes) (sc := defScope s_knot_comes) (by decide +kernel)) (fun _ _ _ _ _ => by exact (pg_tup rfl (pgs_cons (pg_name (i := 5) sc_knot_comes.nd rfl (Or.inl rfl)) (pgs_cons (pg_name (i := 6) sc_knot_comes.nd rfl (Or.inl rfl)) pgs_nil)))) (fun _ _ _ _ _ => (pts_one (pt_cmpR op_eq (pv 6) pe_str (nomark _)))) (fun _ _ _ _ _ => (pv 5))))
      (pss_cons (ps_setLc (i := 4) (own := [("name", 5)]) (by rfl) sc_knot_comes.nd rfl rfl (sw_true rfl rfl rfl (by decide +kernel)) (pi_tup (pe_fld (pv 1) rfl)) (blkOk_by (own := [("name", 5)]) (N := N_knot_comes) (sc := defScope s_knot_comes) (by decide +kernel)) (fun _ _ _ _ _ => (pg_name (i := 5) sc_knot_comes.nd rfl (Or.inl rfl))) (fun _ _ _ _ _ => (pts_one (PW.pt (pw_and (pt_cmpR (r := rIn K true) op_notIn_seq (pv 5) (pv 3) (by rfl)) (pw_and1 (pt_cmpR (r := rNotInD K) (op_notInD (UP.un65 hr)) (pe_tup (pa_cons (pv 5) (pa_cons pe_str pa_nil))) (pv 2) (by rfl))))))) (fun _ _ _ _ _ => (pv 5)))
      (pss_one (ps_ret (pe_cmpR op_notN (pe_call (ok_knot_in T) (hr.mono (by decide)) (by rfl) T.m_knot_in T.F_knot_in.kp T.b_knot_in .nil pass0 (pa_cons (pv 0) (pa_cons (pe_lc (own := [("name", 5)]) (by rfl) sc_knot_comes.nd (pi_list (pe_op op_cat (pv 3) (pv 4))) (blkOk_by (own := [("name", 5)]) (N := N_knot_comes) (sc := defScope s_knot_comes) (by decide +kernel)) (fun _ _ _ _ _ => (pg_name (i := 5) sc_knot_comes.nd rfl (Or.inl rfl))) (fun _ _ _ _ _ => by exact (pts_one (pt_cmpR (r := rIn K true) op_notIn_seq (pv 5) (UP.pe_fldK (K := K) (by rfl) (pv 1) (by rfl)) (by rfl)))) (fun _ _ _ _ _ => (pv 5))) pa_nil))) pe_non (nomark _)))))), ?_⟩
    have hN := G.nms
    have few := wd_few hN dn hW
    have fw : s.wished.length ≤ 16 := Nat.le_trans (nodup_le _ _ wn wsub) hN.len
    obtain ⟨dxa, aw, au, al, ab, ha0, haw, hau, hal, hab⟩ := id hA
    -- on
    refine ⟨_, rfl, l, rfl, ⟨_, hl⟩, fun D nD => lc_list (K := K) (a := l) (xs := xs) (fun i H' => Same H H' ∧ H' D = some (.lst ((waysL (ds.take i) onS).map V.str))) ⟨same_upd nD, upd_same⟩ (fun i H' _ h => SqL.ext hl h.1) ?_ ?_⟩
    · rintro i x H1 hi ⟨s1, w1⟩
      obtain ⟨t, d, rfl, he, ht⟩ := hP.get hi
      refine ⟨t, _, rfl, SqT.of (s1 _ _ ht), rfl, _, _, rfl, _, _, rfl, rfl, rfl, ?_⟩
      refine ⟨_, rfl, rfl, _, rfl, ?_⟩
      rw [take_snoc he, UW.dec_str]
      unfold waysL at w1 ⊢
      rw [List.filter_append, List.map_append, List.map_append]
      by_cases c : d.2 = onS
      · rw [decide_eq_true c, List.filter_cons_of_pos (p := fun (d : Str × Str) => decide (d.2 = onS)) (decide_eq_true c)]
        refine iteT ⟨_, rfl, _, w1, ?_, Same.own (q := D) (H1 := H1) s1 (mut_keep rfl) nD, by rw [upd_same]; rfl⟩
        rw [List.length_map, List.length_map]
        exact Nat.lt_of_le_of_lt (List.length_filter_le _ _) (Nat.lt_of_le_of_lt (List.length_take_le' ..) (small1000 (by omega)))
      · rw [decide_eq_false c, List.filter_cons_of_neg (p := fun (d : Str × Str) => decide (d.2 = onS)) (by rw [show decide (d.2 = onS) = false from decide_eq_false c]; exact Bool.false_ne_true), List.filter_nil, List.map_nil, List.map_nil, List.append_nil]
        exact iteF ⟨s1, w1⟩
    rintro H1 ⟨s1, w1⟩
    rw [hP.len, List.take_length] at w1
    -- left
    refine ⟨_, rfl, a, _, dxa, _, _, rfl, s1 _ _ ha0, T.cl_Stand, T.na_Stand_wished, rfl, aw, rfl, ⟨_, tup_same s1 haw⟩, fun D2 nD2 => lc_tup (K := K) (a := aw) (xs := s.wished.map V.str) (fun i H' => Same H1 H' ∧ H' D2 = some (.lst (((s.wished.take i).filter fun x => decide (x ∉ waysL ds onS) && decide ((x, offS) ∉ ds)).map V.str))) ⟨same_upd nD2, upd_same⟩ (fun i H' _ h => tup_same (s1.trans h.1) haw) ?_ ?_⟩
    · rintro i x H2 hi ⟨s2, w2⟩
      obtain ⟨c, hc, rfl⟩ := map_str_get hi
      have fl : (((s.wished.take i).filter fun x => decide (x ∉ waysL ds onS) && decide ((x, offS) ∉ ds)).map V.str).length < sizeLine := by
        rw [List.length_map]
        exact Nat.lt_of_le_of_lt (List.length_filter_le _ _) (Nat.lt_of_le_of_lt (List.length_take_le' ..) (small1000 (by omega)))
      refine ⟨rfl, _, rfl, _, rfl, D, _, rfl, .inl (SqL.of (s2 _ _ w1)), rfl, strs_flat _, _, rfl, ?_⟩
      show if (if true = true then !inV (.str c) ((waysL ds onS).map V.str) else _) = true then _ else _
      rw [if_pos rfl, inV_str, take_filter_snoc _ hc]
      by_cases c1 : c ∈ waysL ds onS
      · rw [decide_eq_true c1]
        refine iteF (iteF ⟨s2, ?_⟩)
        rw [decide_eq_false (fun z => z c1), if_neg (by rw [Bool.false_and]; exact Bool.false_ne_true), List.append_nil]
        exact w2
      rw [decide_eq_false c1]
      refine iteT ⟨_, rfl, by show 2 ≤ sizeLine; decide, fun t nt => ⟨_, rfl, ?_⟩⟩
      have s3 : Same H2 (upd H2 t (.tup [V.str c, V.str offS])) := same_upd nt
      have s03 := (s1.trans s2).trans s3
      have okc : PyData.strOk c = true := (hN.nm _ (wsub c (List.mem_of_getElem? hc))).ok
      refine notInD2 (d := (c, offS)) (SqT.of upd_same) (SqL.ext hl s03) (hP.prs.same s03) ⟨okc, ok_off⟩ (fun d hd => wd_ok hN (hW d hd)) ⟨_, rfl, ?_⟩
      by_cases c2 : (c, offS) ∈ ds
      · rw [decide_eq_true c2]
        refine iteF ⟨s2.trans s3, ?_⟩
        rw [show decide ((c, offS) ∉ ds) = false from decide_eq_false (fun z => z c2), if_neg (by rw [Bool.and_false]; exact Bool.false_ne_true), List.append_nil]
        exact s3 _ _ w2
      · rw [decide_eq_false c2]
        refine iteT ⟨_, rfl, _, s3 _ _ w2, fl, Same.own (q := D2) (s2.trans s3) (mut_keep rfl) nD2, ?_⟩
        rw [decide_eq_true c1, decide_eq_true c2, upd_same, if_pos (show (true && true) = true from rfl), List.map_append]
        rfl
    rintro H2 ⟨s2, w2⟩
    rw [List.length_map, List.take_length] at w2
    have s12 := s1.trans s2
    have onN : (waysL ds onS).Nodup := waysL_nodup dn
    have onS' : ∀ x ∈ waysL ds onS, x ∈ us.map (·.1) := fun x hx => (hW _ (waysL_mem.mp hx)).1
    have fon : (waysL ds onS).length ≤ 16 := Nat.le_trans (nodup_le _ _ onN onS') hN.len
    have lN : (s.wished.filter fun x => decide (x ∉ waysL ds onS) && decide ((x, offS) ∉ ds)).Nodup := wn.filter _
    have lmem : ∀ x ∈ (s.wished.filter fun x => decide (x ∉ waysL ds onS) && decide ((x, offS) ∉ ds)), x ∈ s.wished ∧ x ∉ waysL ds onS := fun x hx => by
      obtain ⟨h1, h2⟩ := List.mem_filter.mp hx
      exact ⟨h1, of_decide_eq_true (Bool.and_eq_true_iff.mp h2).1⟩
    have fll : (s.wished.filter fun x => decide (x ∉ waysL ds onS) && decide ((x, offS) ∉ ds)).length ≤ 16 := Nat.le_trans (List.length_filter_le _ _) fw
    have allN : (waysL ds onS ++ s.wished.filter fun x => decide (x ∉ waysL ds onS) && decide ((x, offS) ∉ ds)).Nodup := List.nodup_append.mpr ⟨onN, lN, fun x hx y hy e => (lmem y hy).2 (e ▸ hx)⟩
    have allS : ∀ x ∈ (waysL ds onS ++ s.wished.filter fun x => decide (x ∉ waysL ds onS) && decide ((x, offS) ∉ ds)), x ∈ us.map (·.1) := fun x hx => (List.mem_append.mp hx).elim (onS' x) fun h => wsub x (lmem x h).1
    -- those not up
    refine ⟨_, rfl, _, rfl, _, rfl, D, D2, _, _, rfl, rfl, s2 _ _ w1, w2, by rw [List.length_map, List.length_map]; exact Nat.le_of_lt (small1000 (by omega)), fun D3 nD3 => ?_⟩
    rw [← List.map_append]
    have hkc : kc s ds = (waysL ds onS ++ s.wished.filter fun x => decide (x ∉ waysL ds onS) && decide ((x, offS) ∉ ds)).filter fun x => decide (x ∉ s.up) := rfl
    generalize (waysL ds onS ++ s.wished.filter fun x => decide (x ∉ waysL ds onS) && decide ((x, offS) ∉ ds)) = all at hkc allN allS
    generalize hE3 : upd H2 D3 _ = H3
    have w3 := new_at hE3
    have s3 := new_same hE3 nD3
    have s03 := s12.trans s3
    have fa : all.length ≤ 16 := Nat.le_trans (nodup_le _ _ allN allS) hN.len
    refine ⟨D3, rfl, ⟨_, SqL.of w3⟩, fun D4 nD4 => lc_list (K := K) (a := D3) (xs := all.map V.str) (fun i H' => Same H3 H' ∧ H' D4 = some (.lst (((all.take i).filter fun x => decide (x ∉ s.up)).map V.str))) ⟨same_upd nD4, upd_same⟩ (fun i H' _ h => SqL.of (h.1 _ _ w3)) ?_ ?_⟩
    · rintro i x H4 hi ⟨s4, w4⟩
      obtain ⟨c, hc, rfl⟩ := map_str_get hi
      have s04 := s03.trans s4
      refine ⟨rfl, _, rfl, _, rfl, a, _, dxa, _, _, rfl, s04 _ _ ha0, T.cl_Stand, T.na_Stand_up, rfl, au, _, rfl, .inr (tup_same s04 hau), rfl, strs_flat _, _, rfl, ?_⟩
      show if (if true = true then !inV (.str c) (s.up.map V.str) else _) = true then _ else _
      rw [if_pos rfl, inV_str, take_filter_snoc _ hc]
      by_cases c1 : c ∈ s.up
      · rw [decide_eq_true c1]
        refine iteF ⟨s4, ?_⟩
        rw [decide_eq_false (fun z => z c1), if_neg Bool.false_ne_true, List.append_nil]
        exact w4
      · rw [decide_eq_false c1]
        refine iteT ⟨_, rfl, _, w4, ?_, Same.own (q := D4) s4 (mut_keep rfl) nD4, ?_⟩
        · rw [List.length_map]
          exact Nat.lt_of_le_of_lt (List.length_filter_le _ _) (Nat.lt_of_le_of_lt (List.length_take_le' ..) (small1000 (by omega)))
        · rw [decide_eq_true c1, upd_same, if_pos rfl, List.map_append]
          rfl
    rintro H4 ⟨s4, w4⟩
    rw [List.length_map, List.take_length, ← hkc] at w4
    have s04 := s03.trans s4
    refine ⟨p, D4, us, kc s ds, rfl, hS.same s04, hN, G.self, w4, by rw [hkc]; exact allN.filter _, fun n hn => allS n (by rw [hkc] at hn; exact (List.mem_filter.mp hn).1), fun v H5 s5 hv => ?_⟩
    rcases hv with ⟨rfl, nk⟩ | ⟨r, Dr, rfl, _, _, _, hk⟩
    · exact ⟨rfl, q _ H5 (s04.trans s5) ⟨fun z => absurd z (by decide), fun z => absurd z nk⟩⟩
    · refine ⟨rfl, ?_⟩
      rw [decide_eq_false (show ¬ V.ref Dr = V.non from fun z => nomatch z)]
      exact q _ H5 (s04.trans s5) ⟨fun _ => hk, fun _ => rfl⟩

-- SPLIT
theorem pa_starK {X : Cx} {K : PySem.W.Frag} {e : Expr} {es : List Expr} {te : TE} {t : TA} {p : Pos} (hK : X.K = K) (he : PE X e te) (hr : PA X es t) (hs : starEach (.Starred e p :: es) X.env = (true, eval e X.env) :: starEach es X.env := by rfl) : PA X (.Starred e p :: es) (StX.tStar K te t) := hK ▸ StX.pa_star he hr hs

/-! ### the words against a want -/
def wordsL (b1 b2 b3 b4 : Bool) : List Str := ([(Str.ofString "clash", b1), (Str.ofString "early", b2), (Str.ofString "takes", b3), (Str.ofString "knot", b4)].filter fun p => p.2).map (·.1)
inductive WrH (H : Hp) : List V → List (Str × Bool) → Prop
  | nil : WrH H [] []
  | cons {t : Addr} {r : Str × Bool} {xs : List V} {rs : List (Str × Bool)} : H t = some (.tup [.str r.1, .bl r.2]) → WrH H xs rs → WrH H (.ref t :: xs) (r :: rs)
theorem WrH.len {H : Hp} {xs : List V} {rs : List (Str × Bool)} (h : WrH H xs rs) : xs.length = rs.length := by
  induction h with
  | nil => rfl
  | cons _ _ ih => rw [List.length_cons, List.length_cons, ih]
theorem WrH.get {H : Hp} {xs : List V} {rs : List (Str × Bool)} {i : Nat} {x : V} (h : WrH H xs rs) (e : xs[i]? = some x) : ∃ t r, x = .ref t ∧ rs[i]? = some r ∧ H t = some (.tup [.str r.1, .bl r.2]) := by
  induction h generalizing i with
  | nil => simp at e
  | @cons t r _ _ a _ ih =>
    cases i with
    | zero =>
      cases e
      exact ⟨t, r, rfl, rfl, a⟩
    | succ i => exact ih e
theorem any_mem {ns : List Str} {y : Str} {fs : List (Str × Str)} : (ns.map fun x => decide ((x, y) ∈ fs)).any id = true ↔ ∃ x ∈ ns, (x, y) ∈ fs := by
  rw [List.any_eq_true]
  refine ⟨fun ⟨b, hb, e⟩ => ?_, fun ⟨x, hx, h⟩ => ⟨_, List.mem_map.mpr ⟨x, hx, rfl⟩, decide_eq_true h⟩⟩
  obtain ⟨x, hx, rfl⟩ := List.mem_map.mp hb
  exact ⟨x, hx, of_decide_eq_true e⟩
/-- the words against a want w, when had is there -/
def WordsOk (us : List (Str × UF)) (s : SF) (had : List (Str × Str)) (w : Str) (ws : List Str) : Prop :=
  ((w ∉ us.map (·.1) ∨ ¬ NoLack us (had ++ [(w, onS)])) ∧ ws = [Str.ofString "lack"]) ∨
  (w ∈ us.map (·.1) ∧ NoLack us (had ++ [(w, onS)]) ∧ ∃ b1 b2 b3 b4, ws = wordsL b1 b2 b3 b4 ∧ (b1 = true ↔ ∃ x, BothR us (had ++ [(w, onS)]) x) ∧ (b2 = true ↔ ∃ x ∈ s.later, Reach us (had ++ [(w, onS)]) (x, onS) ∧ (x, onS) ∉ had) ∧ (b3 = true ↔ ∃ x ∈ s.wished ++ s.later ++ s.back, Reach us (had ++ [(w, onS)]) (x, offS) ∧ (x, offS) ∉ had) ∧
    (∀ es : List (Str × Str), es.Nodup → (∀ d, d ∈ es ↔ Reach us (had ++ [(w, onS)]) d) → (b4 = true ↔ Knotted (wt us) (kc s (srtP es)))))
def sp_words_of (K : PySem.W.Frag) : Sp := fun vs H Q _ => ∃ (p a l : Addr) (w : Str) (us : List (Str × UF)) (s : SF) (xs : List V) (had : List (Str × Str)), vs = [.ref p, .ref a, .ref l, .str w] ∧ ShelfAt K H p us ∧ Sh us ∧ StandAt K H a s ∧ Fits us s ∧ H l = some (.lst xs) ∧ PrH H xs had ∧ had.Nodup ∧ (∀ d ∈ had, WD us d) ∧
  ∀ ws D H', H D = none → Same H H' → H' D = some (.lst (ws.map V.str)) → WordsOk us s had w ws → Q (.ref D) H'
theorem ok_words_of (T : Txt K mg) : FnOk P w K mg base CX0 7 (He.fAd K ("words_of", none)) T.d_words_of ["shelf", "stand", "had", "wanted"] (sp_words_of K) := by
  refine T.F_words_of.ok sc_words_of (fun vs H Q E h => ?_) (fun cdv A outer s H vs Q E hr h => ?_)
  · obtain ⟨p, a, l, w, us, s, xs, had, rfl, _⟩ := h
    rfl
  · obtain ⟨p, a, l, w, us, s, xs, had, rfl, hS, G, hA, F, hl, hP, hdn, hdW, q0⟩ := h
    have qL : (w ∉ us.map (·.1) ∨ ¬ NoLack us (had ++ [(w, onS)])) → ∀ D H', H D = none → Same H H' → H' D = some (.lst [.str (Str.ofString "lack")]) → Q (.ref D) H' := fun e D H' nD s' wD => q0 [Str.ofString "lack"] D H' nD s' wD (.inl ⟨e, rfl⟩)
    have q : w ∈ us.map (·.1) → NoLack us (had ++ [(w, onS)]) → ∀ b1 b2 b3 b4 D H', H D = none → Same H H' → H' D = some (.lst ((wordsL b1 b2 b3 b4).map V.str)) →
        (b1 = true ↔ ∃ x, BothR us (had ++ [(w, onS)]) x) → (b2 = true ↔ ∃ x ∈ s.later, Reach us (had ++ [(w, onS)]) (x, onS) ∧ (x, onS) ∉ had) → (b3 = true ↔ ∃ x ∈ s.wished ++ s.later ++ s.back, Reach us (had ++ [(w, onS)]) (x, offS) ∧ (x, offS) ∉ had) →
        (∀ es : List (Str × Str), es.Nodup → (∀ d, d ∈ es ↔ Reach us (had ++ [(w, onS)]) d) → (b4 = true ↔ Knotted (wt us) (kc s (srtP es)))) → Q (.ref D) H' := fun hw no b1 b2 b3 b4 D H' nD s' wD e1 e2 e3 e4 => q0 _ D H' nD s' wD (.inr ⟨hw, no, b1, b2, b3, b4, rfl, e1, e2, e3, e4⟩)
    refine ⟨_, PSs.nox (pss_cons (ps_if (pt_not (pt_val (pe_meth (pv 0) T.cl_Shelf T.me_Shelf_has (ok_Shelf_has T) (hr.mono (by decide)) T.b_Shelf_has .nil pass0 (pa_cons (pv 3) pa_nil))))
      (pss_one (ps_ret (pe_lst (pa_cons pe_str pa_nil))))
      pss_nil)
      (pss_cons (L2N.ps_try_many rfl rfl UX.takes0
      (fun W pn xe tk own => (pss_one (ps_set (i := 4) sc_words_of.nd rfl (Or.inl rfl) (pe_callS (E := WE W) (ok_followed T) (hr.mono (by decide)) (by rfl) T.m_followed T.F_followed.kp T.b_followed (L2N.passAt tk) (pa_cons (pv 0) (pa_cons (pe_lst (pa_starK (K := K) (by rfl) (pv 2) (pa_cons (pe_tup (pa_cons (pv 3) (pa_cons pe_str pa_nil))) pa_nil))) pa_nil))))))
      (.cons ⟨by rfl, by decide, .inl T.m_Lack⟩ (fun a oe cls d pn hz hf => (pss_one (ps_ret (pe_lst (pa_cons pe_str pa_nil))))) .nil))
      (pss_cons (ps_set (i := 5) sc_words_of.nd rfl (Or.inr rfl) (pe_lc (own := [("demand", 8)]) (by rfl) sc_words_of.nd (pi_list (pv 4)) (blkOk_by (own := [("demand", 8)]) (N := N_words_of) (sc := defScope s_words_of) (by decide +kernel)) (fun _ _ _ _ _ => (pg_name (i := 8) sc_words_of.nd rfl (Or.inl rfl))) (fun _ _ _ _ _ => (pts_one (pt_cmpR (r := rNotInD K) (op_notInD (UP.un65 hr)) (pv 8) (pv 2) (by rfl)))) (fun _ _ _ _ _ => (pv 8))))
      (pss_cons (ps_set (i := 6) sc_words_of.nd rfl (Or.inl rfl) (pe_op op_catA (pe_op op_catA (pe_fld (pv 1) rfl) (pe_fld (pv 1) rfl)) (pe_fld (pv 1) rfl)))
      (pss_cons (ps_set (i := 7) sc_words_of.nd rfl (Or.inl rfl) (pe_tup (pa_cons (pe_tup (pa_cons pe_str (pa_cons (pe_cmpR op_notN (pe_call (ok_clash_in T) (hr.mono (by decide)) (by rfl) T.m_clash_in T.F_clash_in.kp T.b_clash_in .nil pass0 (pa_cons (pv 4) pa_nil)) pe_non (nomark _)) pa_nil))) (pa_cons (pe_tup (pa_cons pe_str (pa_cons (pe_callB (id := "any")  (cr_any rfl) (by rfl) T.n_any (by decide +kernel) (pa_cons (pe_lc (own := [("name", 11)]) (by rfl) sc_words_of.nd (pi_tup (pe_fld (pv 1) rfl)) (blkOk_by (own := [("name", 11)]) (N := N_words_of) (sc := defScope s_words_of) (by decide +kernel)) (fun _ _ _ _ _ => (pg_name (i := 11) sc_words_of.nd rfl (Or.inl rfl))) (fun _ _ _ _ _ => pts_nil) (fun _ _ _ _ _ => (pe_cmpR (r := rInD K) (op_inD (UP.un65 hr)) (pe_tup (pa_cons (pv 11) (pa_cons pe_str pa_nil))) (pv 5) (by rfl)))) pa_nil)) pa_nil))) (pa_cons (pe_tup (pa_cons pe_str (pa_cons (pe_callB (id := "any")  (cr_any rfl) (by rfl) T.n_any (by decide +kernel) (pa_cons (pe_lc (own := [("name", 11)]) (by rfl) sc_words_of.nd (pi_tup (pv 6)) (blkOk_by (own := [("name", 11)]) (N := N_words_of) (sc := defScope s_words_of) (by decide +kernel)) (fun _ _ _ _ _ => (pg_name (i := 11) sc_words_of.nd rfl (Or.inl rfl))) (fun _ _ _ _ _ => pts_nil) (fun _ _ _ _ _ => (pe_cmpR (r := rInD K) (op_inD (UP.un65 hr)) (pe_tup (pa_cons (pv 11) (pa_cons pe_str pa_nil))) (pv 5) (by rfl)))) pa_nil)) pa_nil))) (pa_cons (pe_tup (pa_cons pe_str (pa_cons (pe_call (ok_knot_comes T) (hr.mono (by decide)) (by rfl) T.m_knot_comes T.F_knot_comes.kp T.b_knot_comes .nil pass0 (pa_cons (pv 0) (pa_cons (pv 1) (pa_cons (pv 4) pa_nil)))) pa_nil))) pa_nil))))))
      (pss_one (ps_ret (pe_lc (own := [("word", 9), ("is_so", 10)]) (g := gTup K 2 (gCons (gName 9) (gCons (gName 10) gNil))) (by rfl) sc_words_of.nd (pi_tup (pv 7)) (blkOk_by (own := [("word", 9), ("is_so", 10)]) (N := N_words_of) (sc := defScope s_words_of) (by decide +kernel)) (fun _ _ _ _ _ => by exact (pg_tup rfl (pgs_cons (pg_name (i := 9) sc_words_of.nd rfl (Or.inl rfl)) (pgs_cons (pg_name (i := 10) sc_words_of.nd rfl (Or.inl rfl)) pgs_nil)))) (fun _ _ _ _ _ => (pts_one (pt_val (pv 10)))) (fun _ _ _ _ _ => (pv 9)))))))))), ?_⟩
    have hN := G.nms
    obtain ⟨dx, dd, kvs, hp, _⟩ := id hS
    refine ⟨_, rfl, p, dx, _, rfl, hp, rfl, _, rfl, p, w, us, rfl, hS, hN, ?_⟩
    by_cases cw : w ∈ us.map (·.1)
    case neg =>
      rw [decide_eq_false cw]
      refine ⟨_, rfl, iteT ⟨by show 1 ≤ sizeLine; decide, fun D nD => ?_⟩⟩
      exact qL (.inl cw) D _ nD (same_upd nD) upd_same
    rw [decide_eq_true cw]
    refine ⟨_, rfl, iteF ?_⟩
    refine ⟨_, rfl, _, rfl, l, xs, rfl, .inr (SqL.of hl), _, rfl, by show 2 ≤ sizeLine; decide, fun t nt => ?_⟩
    generalize hE1 : upd H t _ = H1
    have w1 := new_at hE1
    have s1 := new_same hE1 nt
    have fh := wd_few hN hdn hdW
    refine ⟨by rw [List.length_append, hP.len]; exact Nat.le_of_lt (small1000 (by show had.length + 1 ≤ 1000; omega)), fun L nL => ?_⟩
    generalize hE2 : upd H1 L _ = H2
    have w2 := new_at hE2
    have s2 := new_same hE2 nL
    have s02 := s1.trans s2
    have wdn : ∀ d ∈ had ++ [(w, onS)], WD us d := fun d hd => by
      rcases List.mem_append.mp hd with hd | hd
      · exact hdW d hd
      · rw [List.mem_singleton.mp hd]
        exact ⟨cw, .inl rfl⟩
    refine ⟨p, L, us, _, had ++ [(w, onS)], rfl, hS.same s02, hN, fun p hp => (G.few p hp).1, G.short, SqL.of w2, (hP.same s02).app (.cons (s2 _ _ w1) .nil), wdn, fun no C cs es H3 nC s3 wC pC hnd hm => ?_, fun no m d l2 H3 nd3 wd3 s3 => ?_⟩
    case refine_2 =>
      refine ⟨true, T.em_Lack_Lack, fun _ x nx => ?_, fun z => nomatch z⟩
      refine ⟨by show 1 ≤ sizeLine; decide, fun D nD => ?_⟩
      have s03 := s02.trans s3
      exact qL (.inr no) D _ (s03.free nD) (s03.trans (same_upd nD)) upd_same
    have s03 := s02.trans s3
    have en : (srtP es).Nodup := (srtP_perm es).nodup_iff.mpr hnd
    have wdE : ∀ d ∈ srtP es, WD us d := fun d hd => reach_wd wdn ((hm d).mp (srtP_mem.mp hd))
    have few := wd_few hN en wdE
    have okE : ∀ d ∈ srtP es, Ok2 d := fun d hd => wd_ok hN (wdE d hd)
    have okH : ∀ d ∈ had, Ok2 d := fun d hd => wd_ok hN (hdW d hd)
    -- fresh
    refine ⟨_, rfl, C, rfl, ⟨_, SqL.of wC⟩, fun Df nDf => lc_list (K := K) (a := C) (xs := cs) (fun i H' => Same H3 H' ∧ ∃ fs, H' Df = some (.lst fs) ∧ PrH H' fs (((srtP es).take i).filter fun d => decide (d ∉ had))) ⟨same_upd nDf, [], upd_same, .nil⟩ (fun i H' _ h => SqL.of (h.1 _ _ wC)) ?_ ?_⟩
    · rintro i x H4 hi ⟨s4, fs, w4, p4⟩
      obtain ⟨u, d, rfl, hd, hu⟩ := pC.get hi
      have s04 := s03.trans s4
      have hu4 := s4 _ _ hu
      have dm : d ∈ srtP es := List.mem_of_getElem? hd
      refine ⟨rfl, _, rfl, _, rfl, ?_⟩
      refine notInD2 (d := d) (SqT.of hu4) (SqL.of (s04 _ _ hl)) (hP.prs.same s04) (okE d dm) okH ⟨_, rfl, ?_⟩
      rw [take_filter_snoc _ hd]
      by_cases c : d ∈ had
      · rw [decide_eq_true c]
        refine iteF ⟨s4, fs, w4, ?_⟩
        rw [decide_eq_false (fun z => z c), if_neg Bool.false_ne_true, List.append_nil]
        exact p4
      · rw [decide_eq_false c]
        refine iteT ⟨_, rfl, _, w4, ?_, Same.own (q := Df) s4 (mut_keep rfl) nDf, _, upd_same, ?_⟩
        · rw [p4.len]
          exact Nat.lt_of_le_of_lt (List.length_filter_le _ _) (Nat.lt_of_le_of_lt (List.length_take_le' ..) (small1000 (by omega)))
        · rw [decide_eq_true c, if_pos rfl]
          have m5 : Kp Df H4 (upd H4 Df (.lst (fs ++ [.ref u]))) := mut_keep rfl
          have nt5 : NotTup H4 Df := .lst w4
          exact (p4.keep m5 nt5).app (.cons (m5 _ _ hu4 (nt5.ne hu4)) .nil)
    rintro H4 ⟨s4, fs, w4, p4⟩
    rw [pC.len, List.take_length] at p4
    have s04 := s03.trans s4
    have fmem : ∀ d, d ∈ ((srtP es).filter fun d => decide (d ∉ had)) ↔ Reach us (had ++ [(w, onS)]) d ∧ d ∉ had := fun d => by
      rw [List.mem_filter, srtP_mem, hm]
      exact ⟨fun ⟨h1, h2⟩ => ⟨h1, of_decide_eq_true h2⟩, fun ⟨h1, h2⟩ => ⟨h1, decide_eq_true h2⟩⟩
    have okF : ∀ d ∈ ((srtP es).filter fun d => decide (d ∉ had)), Ok2 d := fun d hd => okE d (List.mem_filter.mp hd).1
    generalize ((srtP es).filter fun d => decide (d ∉ had)) = fr at p4 fmem okF
    -- held
    obtain ⟨Fsub, Fnd, _, _, _⟩ := id F
    have sW : ∀ x ∈ s.wished, x ∈ us.map (·.1) := fun x hx => Fsub x (by simp only [List.mem_append]; exact .inl (.inl (.inl hx)))
    have sL : ∀ x ∈ s.later, x ∈ us.map (·.1) := fun x hx => Fsub x (by simp only [List.mem_append]; exact .inl (.inr hx))
    have sB : ∀ x ∈ s.back, x ∈ us.map (·.1) := fun x hx => Fsub x (by simp only [List.mem_append]; exact .inr hx)
    have nW : s.wished.Nodup := (List.nodup_append.mp (List.nodup_append.mp Fnd).1).1
    have nLt : s.later.Nodup := (List.nodup_append.mp (List.nodup_append.mp Fnd).1).2.1
    have nBk : s.back.Nodup := (List.nodup_append.mp Fnd).2.1
    have fW := Nat.le_trans (nodup_le _ _ nW sW) hN.len
    have fL := Nat.le_trans (nodup_le _ _ nLt sL) hN.len
    have fB := Nat.le_trans (nodup_le _ _ nBk sB) hN.len
    obtain ⟨dxa, aw, au, al, ab, ha0, haw, hau, hal, hab⟩ := id hA
    refine ⟨_, rfl, a, _, dxa, _, _, rfl, s04 _ _ ha0, T.cl_Stand, T.na_Stand_wished, rfl, _, rfl, a, _, dxa, _, _, rfl, s04 _ _ ha0, T.cl_Stand, T.na_Stand_later, rfl, catA_any (tup_same s04 haw) (tup_same s04 hal) (by rw [List.length_map, List.length_map]; exact Nat.le_of_lt (small1000 (by omega))) fun t5 H5 s5 _ w5 => ?_⟩
    have s05 := s04.trans s5
    refine ⟨_, rfl, a, _, dxa, _, _, rfl, s05 _ _ ha0, T.cl_Stand, T.na_Stand_back, rfl, catA_any w5 (tup_same s05 hab) (by rw [List.length_append, List.length_map, List.length_map, List.length_map]; exact Nat.le_of_lt (small1000 (by omega))) fun t6 H6 s6 _ w6 => ?_⟩
    have s06 := s05.trans s6
    rw [← List.map_append, ← List.map_append] at w6
    have sH : ∀ x ∈ s.wished ++ s.later ++ s.back, x ∈ us.map (·.1) := fun x hx => by
      rcases List.mem_append.mp hx with hx | hx
      · exact (List.mem_append.mp hx).elim (sW x) (sL x)
      · exact sB x hx
    have fH : (s.wished ++ s.later ++ s.back).length ≤ 48 := by
      rw [List.length_append, List.length_append]
      omega
    have s36 := (s4.trans s5).trans s6
    have s46 := s5.trans s6
    -- clash
    refine ⟨_, rfl, C, cs, srtP es, rfl, SqL.of (s36 _ _ wC), (pC.same s36).prs, by omega, okE, fun o H7 ho s7 => ⟨rfl, by show 2 ≤ sizeLine; decide, fun t7 nt7 => ?_⟩⟩
    generalize hE8 : upd H7 t7 _ = H8
    have w7 := new_at hE8
    have s8 := s7.trans (new_same hE8 nt7)
    have s08 := s06.trans s8
    have s48 := s46.trans s8
    -- early
    refine ⟨_, rfl, a, _, dxa, _, _, rfl, s08 _ _ ha0, T.cl_Stand, T.na_Stand_later, rfl, al, rfl, ⟨_, tup_same s08 hal⟩, fun Da nDa => lc_tup (K := K) (a := al) (xs := s.later.map V.str) (fun i H' => Same H8 H' ∧ H' Da = some (.lst (((s.later.take i).map fun x => decide ((x, onS) ∈ fr)).map V.bl))) ⟨same_upd nDa, upd_same⟩ (fun i H' _ h => tup_same (s08.trans h.1) hal) ?_ ?_⟩
    · rintro i x H9 hi ⟨s9, w9⟩
      obtain ⟨c, hc, rfl⟩ := map_str_get hi
      have okc : PyData.strOk c = true := (hN.nm _ (sL c (List.mem_of_getElem? hc))).ok
      refine ⟨rfl, yes_of (iteT ⟨_, rfl, by show 2 ≤ sizeLine; decide, fun t nt => ⟨_, rfl, ?_⟩⟩)⟩
      have st : Same H9 (upd H9 t (.tup [V.str c, V.str onS])) := same_upd nt
      have s4t := (s48.trans s9).trans st
      refine inD2 (d := (c, onS)) (SqT.of upd_same) (SqL.of (s4t _ _ w4)) (p4.prs.same s4t) ⟨okc, ok_on⟩ okF ⟨_, st _ _ w9, ?_, Same.own (q := Da) (s9.trans st) (mut_keep rfl) nDa, ?_⟩
      · rw [List.length_map, List.length_map]
        exact Nat.lt_of_le_of_lt (List.length_take_le' ..) (small1000 (by omega))
      · rw [upd_same, take_snoc hc, List.map_append, List.map_append]
        rfl
    rintro H9 ⟨s9, w9⟩
    rw [List.length_map, List.take_length] at w9
    refine ⟨Da, _, rfl, SqL.of w9, by show 2 ≤ sizeLine; decide, fun t10 nt10 => ?_⟩
    generalize hE10 : upd H9 t10 _ = H10
    have w10 := new_at hE10
    have s10 := s9.trans (new_same hE10 nt10)
    have s0A := s08.trans s10
    have s4A := s48.trans s10
    -- takes
    refine ⟨_, rfl, t6, rfl, ⟨_, tup_same (s8.trans s10) w6⟩, fun Db nDb => lc_tup (K := K) (a := t6) (xs := (s.wished ++ s.later ++ s.back).map V.str) (fun i H' => Same H10 H' ∧ H' Db = some (.lst ((((s.wished ++ s.later ++ s.back).take i).map fun x => decide ((x, offS) ∈ fr)).map V.bl))) ⟨same_upd nDb, upd_same⟩ (fun i H' _ h => tup_same ((s8.trans s10).trans h.1) w6) ?_ ?_⟩
    · rintro i x H11 hi ⟨s11, w11⟩
      obtain ⟨c, hc, rfl⟩ := map_str_get hi
      have okc : PyData.strOk c = true := (hN.nm _ (sH c (List.mem_of_getElem? hc))).ok
      refine ⟨rfl, yes_of (iteT ⟨_, rfl, by show 2 ≤ sizeLine; decide, fun t nt => ⟨_, rfl, ?_⟩⟩)⟩
      have st : Same H11 (upd H11 t (.tup [V.str c, V.str offS])) := same_upd nt
      have s4t := (s4A.trans s11).trans st
      refine inD2 (d := (c, offS)) (SqT.of upd_same) (SqL.of (s4t _ _ w4)) (p4.prs.same s4t) ⟨okc, ok_off⟩ okF ⟨_, st _ _ w11, ?_, Same.own (q := Db) (s11.trans st) (mut_keep rfl) nDb, ?_⟩
      · rw [List.length_map, List.length_map]
        exact Nat.lt_of_le_of_lt (List.length_take_le' ..) (small1000 (by omega))
      · rw [upd_same, take_snoc hc, List.map_append, List.map_append]
        rfl
    rintro H11 ⟨s11, w11⟩
    rw [List.length_map, List.take_length] at w11
    refine ⟨Db, _, rfl, SqL.of w11, by show 2 ≤ sizeLine; decide, fun t12 nt12 => ?_⟩
    generalize hE12 : upd H11 t12 _ = H12
    have w12 := new_at hE12
    have s12 := s11.trans (new_same hE12 nt12)
    have s0C := s0A.trans s12
    have s3C := (s4.trans s4A).trans s12
    -- knot
    refine ⟨_, rfl, _, rfl, _, rfl, p, a, C, us, s, cs, srtP es, rfl, hS.same s0C, G, hA.same s0C, nW, sW, SqL.of (s3C _ _ wC), pC.same s3C, en, wdE, fun b4 H13 s13 hb4 => ⟨by show 2 ≤ sizeLine; decide, fun t14 nt14 => ?_⟩⟩
    generalize hE14 : upd H13 t14 _ = H14
    have w14 := new_at hE14
    have s14 := s13.trans (new_same hE14 nt14)
    refine ⟨by show 4 ≤ sizeLine; decide, fun t15 nt15 => ?_⟩
    generalize hE15 : upd H14 t15 _ = H15
    have w15 := new_at hE15
    have s15 := new_same hE15 nt15
    have sD := s12.trans (s14.trans s15)
    have s0F := s0A.trans sD
    have hWr : WrH H15 [.ref t7, .ref t10, .ref t12, .ref t14] [(Str.ofString "clash", !decide (optV o = V.non)), (Str.ofString "early", (s.later.map fun x => decide ((x, onS) ∈ fr)).any id), (Str.ofString "takes", ((s.wished ++ s.later ++ s.back).map fun x => decide ((x, offS) ∈ fr)).any id), (Str.ofString "knot", b4)] :=
      .cons ((s10.trans sD) _ _ w7) (.cons (sD _ _ w10) (.cons ((s14.trans s15) _ _ w12) (.cons (s15 _ _ w14) .nil)))
    generalize hps : [(Str.ofString "clash", !decide (optV o = V.non)), (Str.ofString "early", (s.later.map fun x => decide ((x, onS) ∈ fr)).any id), (Str.ofString "takes", ((s.wished ++ s.later ++ s.back).map fun x => decide ((x, offS) ∈ fr)).any id), (Str.ofString "knot", b4)] = ps at hWr
    have psl : ps.length = 4 := by rw [← hps]; rfl
    -- the words
    refine ⟨_, rfl, t15, rfl, ⟨_, SqT.of w15⟩, fun D nD => lc_tup (K := K) (a := t15) (xs := [.ref t7, .ref t10, .ref t12, .ref t14]) (fun i H' => Same H15 H' ∧ H' D = some (.lst ((((ps.take i).filter fun p => p.2).map (·.1)).map V.str))) ⟨same_upd nD, upd_same⟩ (fun i H' _ h => SqT.of (h.1 _ _ w15)) ?_ ?_⟩
    · rintro i x H16 hi ⟨s16, w16⟩
      obtain ⟨t, r, rfl, hr', ht⟩ := hWr.get hi
      refine ⟨t, _, rfl, SqT.of (s16 _ _ ht), rfl, _, _, rfl, _, _, rfl, rfl, rfl, ?_⟩
      rw [take_snoc hr', List.filter_append, List.map_append, List.map_append]
      refine ⟨_, rfl, r.2, rfl, ?_⟩
      by_cases c : r.2 = true
      · rw [c]
        refine iteT ⟨_, rfl, _, w16, ?_, Same.own (q := D) s16 (mut_keep rfl) nD, ?_⟩
        · rw [List.length_map, List.length_map]
          exact Nat.lt_of_le_of_lt (List.length_filter_le _ _) (Nat.lt_of_le_of_lt (List.length_take_le' ..) (small1000 (by omega)))
        · rw [upd_same, List.filter_cons_of_pos (p := fun p : Str × Bool => p.2) c]
          rfl
      · rw [Bool.eq_false_iff.mpr c]
        refine iteF ⟨s16, ?_⟩
        rw [List.filter_cons_of_neg (p := fun p : Str × Bool => p.2) c, List.filter_nil, List.map_nil, List.map_nil, List.append_nil]
        exact w16
    rintro H16 ⟨s16, w16⟩
    rw [show ([.ref t7, .ref t10, .ref t12, .ref t14] : List V).length = ps.length by rw [psl]; rfl, List.take_length, ← hps] at w16
    refine q cw no (!decide (optV o = V.non)) _ _ b4 D H16 (s0F.free nD) (s0F.trans s16) w16 ?_ ?_ ?_ ?_
    · have ho2 := ho.iff (both_reach hm)
      cases o with
      | none => exact ⟨fun z => absurd z (by decide), fun ⟨x, hx⟩ => absurd hx (ho2 x)⟩
      | some x => exact ⟨fun _ => ⟨x, ho2.1⟩, fun _ => rfl⟩
    · rw [any_mem]
      exact ⟨fun ⟨x, h1, h2⟩ => ⟨x, h1, (fmem _).mp h2⟩, fun ⟨x, h1, h2⟩ => ⟨x, h1, (fmem _).mpr h2⟩⟩
    · rw [any_mem]
      exact ⟨fun ⟨x, h1, h2⟩ => ⟨x, h1, (fmem _).mp h2⟩, fun ⟨x, h1, h2⟩ => ⟨x, h1, (fmem _).mpr h2⟩⟩
    · intro es' hn' hm'
      have e : srtP es' = srtP es := srtP_congr ((List.perm_ext_iff_of_nodup hn' hnd).mpr fun d => (hm' d).trans (hm d).symm)
      rw [e]
      exact hb4

-- SPLIT
/-! ### the want that is looked at next -/
/-- how many wants of each were looked at -/
def LookAt (kvs : List (Key × V)) (f : Str → Nat) : Prop := ∀ x : Str, (valV kvs (Sum.inr x : Key)).getD (.int 0) = .int (f x)
def nextW (us : List (Str × UF)) (s : SF) (rs : List Row) (f : Str → Nat) : Option (Str × Str) := (srt (onL rs)).findSome? fun a => ((wnt us s a)[f a]?).map fun w => (a, w)
def NextV (us : List (Str × UF)) (s : SF) (rs : List Row) (f : Str → Nat) (H H' : Hp) (v : V) : Prop := (v = .non ∧ nextW us s rs f = none) ∨ ∃ t x w, v = .ref t ∧ H t = none ∧ H' t = some (.tup [.str x, .str w]) ∧ nextW us s rs f = some (x, w)
def sp_next_want (K : PySem.W.Frag) : Sp := fun vs H Q _ => ∃ (p a l d : Addr) (us : List (Str × UF)) (s : SF) (xs : List V) (rs : List Row) (kvs : List (Key × V)) (f : Str → Nat), vs = [.ref p, .ref a, .ref l, .ref d] ∧ ShelfAt K H p us ∧ Sh us ∧ StandAt K H a s ∧ SqL K H l xs ∧ TrH H xs rs ∧ rs.length ≤ 40 ∧ (∀ x ∈ onL rs, x ∈ us.map (·.1)) ∧ H d = some (.dK kvs) ∧ LookAt kvs f ∧
  ∀ v H', Same H H' → NextV us s rs f H H' v → Q v H'
theorem ok_next_want (T : Txt K mg) : FnOk P w K mg base CX0 5 (He.fAd K ("next_want", none)) T.d_next_want ["shelf", "stand", "demands", "looked"] (sp_next_want K) := by
  refine T.F_next_want.ok sc_next_want (fun vs H Q E h => ?_) (fun cdv A outer s H vs Q E hr h => ?_)
  · obtain ⟨p, a, l, d, us, s, xs, rs, kvs, f, rfl, _⟩ := h
    rfl
  · obtain ⟨p, a, l, d, us, s, xs, rs, kvs, f, rfl, hS, G, hA, hl, hT, few, hon, hd, hK, q0⟩ := h
    have qN : nextW us s rs f = none → ∀ H', Same H H' → Q .non H' := fun e H' s' => q0 .non H' s' (.inl ⟨rfl, e⟩)
    have q : ∀ x w, nextW us s rs f = some (x, w) → ∀ t H', H t = none → Same H H' → H' t = some (.tup [.str x, .str w]) → Q (.ref t) H' := fun x w e t H' nt s' wt => q0 _ H' s' (.inr ⟨t, x, w, rfl, nt, wt, e⟩)
    refine ⟨_, PSs.nox (pss_cons (ps_for PassesOwn.never rfl (pi_list (pe_callB (id := "sorted")  cr_sortedS (by rfl) T.n_sorted (by decide +kernel) (pa_cons (pe_lc (own := [("name", 6), ("way", 7), ("cause", 8)]) (g := gTup K 3 (gCons (gName 6) (gCons (gName 7) (gCons (gName 8) gNil)))) (by rfl) sc_next_want.nd (pi_list (pv 2)) (blkOk_by (own := [("name", 6), ("way", 7), ("cause", 8)]) (N := N_next_want) (sc := defScope s_next_want) (by decide +kernel)) (fun _ _ _ _ _ => by exact (pg_tup rfl (pgs_cons (pg_name (i := 6) sc_next_want.nd rfl (Or.inl rfl)) (pgs_cons (pg_name (i := 7) sc_next_want.nd rfl (Or.inl rfl)) (pgs_cons (pg_name (i := 8) sc_next_want.nd rfl (Or.inl rfl)) pgs_nil))))) (fun _ _ _ _ _ => (pts_one (pt_cmpR op_eq (pv 7) pe_str (nomark _)))) (fun _ _ _ _ _ => (pv 6))) pa_nil))) (pg_name (i := 4) sc_next_want.nd rfl (Or.inl rfl))
      (pss_cons (ps_set (i := 5) sc_next_want.nd rfl (Or.inl rfl) (pe_slice sl_list (pe_call (ok_wants_of T) (hr.mono (by decide)) (by rfl) T.m_wants_of T.F_wants_of.kp T.b_wants_of .nil pass0 (pa_cons (pv 0) (pa_cons (pv 1) (pa_cons (pv 4) pa_nil)))) (po_some (pe_dget2 (hu_of hr) (pv 3) (pv 4) pe_int ⟨by rfl, by rfl, by rfl, by rfl⟩)) po_none))
      (pss_one (ps_if (pt_cmpR op_gt (pe_callB (id := "len")  call_len_seq (by rfl) T.n_len (by decide +kernel) (pa_cons (pv 5) pa_nil)) pe_int (nomark _))
      (pss_one (ps_ret (pe_tup (pa_cons (pv 4) (pa_cons (pe_ix ix_list (pv 5) pe_int (fun _ _ => rfl)) pa_nil)))))
      pss_nil))))
      (pss_one (ps_ret pe_non))), ?_⟩
    have hN := G.nms
    have fo : (onL rs).length ≤ 40 := by
      unfold onL waysL
      rw [List.length_map]
      refine Nat.le_trans (List.length_filter_le _ _) ?_
      rw [List.length_map]
      exact few
    refine ⟨_, rfl, l, rfl, ⟨_, hl⟩, fun D nD => lc_list (K := K) (a := l) (xs := xs) (fun i H' => Same H H' ∧ H' D = some (.lst ((waysL (bares (rs.take i)) onS).map V.str))) ⟨same_upd nD, upd_same⟩ (fun i H' _ h => SqL.ext hl h.1) ?_ ?_⟩
    · rintro i x H1 hi ⟨s1, w1⟩
      obtain ⟨t, r, rfl, he, ht⟩ := hT.get hi
      refine ⟨t, _, rfl, SqT.of (s1 _ _ (ht)), rfl, _, _, rfl, _, _, rfl, _, _, rfl, rfl, rfl, ?_⟩
      refine ⟨_, rfl, rfl, _, rfl, ?_⟩
      rw [take_snoc he, show bares (rs.take i ++ [r]) = bares (rs.take i) ++ [bare r] from List.map_append, UW.dec_str]
      unfold waysL at w1 ⊢
      rw [List.filter_append, List.map_append, List.map_append]
      by_cases c : r.2.1 = onS
      · rw [decide_eq_true c, List.filter_cons_of_pos (p := fun (d : Str × Str) => decide (d.2 = onS)) (decide_eq_true c)]
        refine iteT ⟨_, rfl, _, w1, ?_, Same.own (q := D) (H1 := H1) s1 (mut_keep rfl) nD, by rw [upd_same]; rfl⟩
        rw [List.length_map, List.length_map]
        refine Nat.lt_of_le_of_lt (List.length_filter_le _ _) ?_
        rw [List.length_map]
        exact Nat.lt_of_le_of_lt (List.length_take_le' ..) (small1000 (by omega))
      · rw [decide_eq_false c, List.filter_cons_of_neg (p := fun (d : Str × Str) => decide (d.2 = onS)) (by rw [show decide ((bare r).2 = onS) = false from decide_eq_false c]; exact Bool.false_ne_true), List.filter_nil, List.map_nil, List.map_nil, List.append_nil]
        exact iteF ⟨s1, w1⟩
    rintro H1 ⟨s1, w1⟩
    rw [hT.len, List.take_length] at w1
    have w1 : H1 D = some (.lst ((onL rs).map V.str)) := w1
    refine ⟨D, _, rfl, SqL.of w1, by omega, fun ys0 wl hy hs nwl => ?_⟩
    obtain rfl := srt_of hy hs
    generalize hE2 : upd H1 wl _ = H2
    have w2 := new_at hE2
    have s2 := new_same hE2 nwl
    have s02 := s1.trans s2
    refine ⟨wl, rfl, ⟨_, SqL.of w2⟩, for_list (xs := (srt (onL rs)).map V.str) (fun i σ H' => Same H2 H' ∧ (∀ x ∈ (srt (onL rs)).take i, (wnt us s x)[f x]? = none) ∧ ∃ y4 y5 y6 y7 y8 : Option V, σ = [some (.ref p), some (.ref a), some (.ref l), some (.ref d), y4, y5, y6, y7, y8]) ⟨Same.refl _, (fun x hx => nomatch hx), _, _, _, _, _, rfl⟩ (fun i σ H' _ h => SqL.of (h.1 _ _ w2)) ?_ ?_⟩
    · rintro i x σ H3 hi ⟨s3, no3, y4, y5, y6, y7, y8, rfl⟩
      obtain ⟨c, hc, rfl⟩ := map_str_get hi
      have s03 := s02.trans s3
      have hcn : c ∈ us.map (·.1) := hon c (srt_mem.mp (List.mem_of_getElem? hc))
      refine ⟨_, rfl, _, rfl, _, rfl, p, a, c, us, s, rfl, hS.same s03, G, hA.same s03, hcn, fun L H4 nL s4 w4 wl4 => ?_⟩
      have s04 := s03.trans s4
      refine ⟨_, rfl, d, rfl, .inl ⟨kvs, .inl (s04 _ _ hd)⟩, _, rfl, _, DGet.k (k := Sum.inr c) (s04 _ _ hd), ?_⟩
      refine ⟨_, hK c, L, _, rfl, SqL.of w4, fun R nR => ?_⟩
      rw [cutV_from]
      generalize hE5 : upd H4 R _ = H5
      have w5 := new_at hE5
      have s5 := new_same hE5 nR
      have s35 := s4.trans s5
      have s05 := s03.trans s35
      refine ⟨_, rfl, R, _, rfl, .inl (SqL.of w5), _, _, rfl, rfl, _, rfl, ?_⟩
      rw [List.length_map]
      cases e : (wnt us s c)[f c]? with
      | none =>
        have : ((wnt us s c).drop (f c)).length = 0 := by
          rw [List.length_drop]
          have := List.getElem?_eq_none_iff.mp e
          omega
        rw [this]
        refine iteNd (by decide) ⟨s3.trans s35, fun x hx => ?_, _, _, _, _, _, rfl⟩
        rw [take_snoc hc] at hx
        rcases List.mem_append.mp hx with hx | hx
        · exact no3 x hx
        · rw [List.mem_singleton.mp hx]
          exact e
      | some v =>
        obtain ⟨lt, ev⟩ := List.getElem?_eq_some_iff.mp e
        have ed : (wnt us s c).drop (f c) = v :: (wnt us s c).drop (f c + 1) := by rw [List.drop_eq_getElem_cons lt, ev]
        rw [ed] at w5 ⊢
        refine iteYd (by rw [List.length_cons]; omega) ?_
        refine ⟨_, rfl, _, rfl, R, _, _, _, rfl, rfl, SqL.of w5, at0, by show 2 ≤ sizeLine; decide, fun t nt => ?_⟩
        refine q c v ?_ t _ (s05.free nt) (s05.trans (same_upd nt)) upd_same
        unfold nextW
        obtain ⟨lt2, ec⟩ := List.getElem?_eq_some_iff.mp hc
        rw [← List.take_append_drop i (srt (onL rs)), List.findSome?_append, List.drop_eq_getElem_cons lt2, ec]
        have z : ((srt (onL rs)).take i).findSome? (fun a => ((wnt us s a)[f a]?).map fun w => (a, w)) = none := by
          rw [List.findSome?_eq_none_iff]
          intro x hx
          rw [no3 x hx]
          rfl
        rw [z, List.findSome?_cons, e]
        rfl
    · rintro σ H3 ⟨s3, no3, y4, y5, y6, y7, y8, rfl⟩
      rw [List.length_map, List.take_length] at no3
      refine qN ?_ H3 (s02.trans s3)
      unfold nextW
      rw [List.findSome?_eq_none_iff]
      intro x hx
      rw [no3 x hx]
      rfl

-- SPLIT
/-! ### what holds of the rows of a plan that turns on -/
structure Held (us : List (Str × UF)) (s : SF) (n : Str) (gs : List Row) : Prop where
  nd : (bares gs).Nodup
  wd : ∀ d ∈ bares gs, WD us d
  cl : ∀ d ∈ bares gs, ∀ e ∈ ao us d, e ∈ bares gs
  noc : ∀ x, (x, onS) ∈ bares gs → (x, offS) ∉ bares gs
  first : gs[0]? = some (n, onS, -1)
  why : ∀ (i : Nat) (g : Row), 0 < i → gs[i]? = some g → ∃ (j : Nat) (c : Row), j < i ∧ g.2.2 = (j : Int) ∧ gs[j]? = some c ∧ (bare g ∈ ao us (bare c) ∨ (g.2.1 = onS ∧ c.2.1 = onS ∧ g.1 ∈ wnt us s c.1))
theorem bares_at {gs : List Row} {d : Str × Str} (h : d ∈ bares gs) : ∃ (i : Nat) (g : Row), gs[i]? = some g ∧ bare g = d := by
  obtain ⟨g, hg, e⟩ := List.mem_map.mp h
  obtain ⟨i, hi, e2⟩ := List.getElem_of_mem hg
  exact ⟨i, g, by rw [List.getElem?_eq_getElem hi, e2], e⟩
theorem at_bares {gs : List Row} {i : Nat} {g : Row} (h : gs[i]? = some g) : bare g ∈ bares gs := List.mem_map.mpr ⟨g, List.mem_of_getElem? h, rfl⟩
theorem Grown.near {us : List (Str × UF)} {rs gs : List Row} {r : Row} (G : Grown us rs r gs) : ∀ (i : Nat) (g : Row), gs[i]? = some g → Reach us (bares rs ++ [bare r]) (bare g) := by
  obtain ⟨ext, he⟩ := G.head
  intro i
  induction i using Nat.strongRecOn with
  | _ i ih =>
    intro g hg
    by_cases c : i < rs.length
    · rw [he, List.getElem?_append_left c] at hg
      exact .base (List.mem_append_left _ (at_bares hg))
    by_cases c2 : i = rs.length
    · subst c2
      rw [he, List.getElem?_append_right (Nat.le_refl _), Nat.sub_self] at hg
      cases hg
      exact .base (List.mem_append_right _ (List.mem_singleton.mpr rfl))
    · obtain ⟨j, k, _, lt, _, hk, ha⟩ := G.caused i g (by omega) hg
      exact .step (ih j lt k hk) ha
theorem Held.core {us : List (Str × UF)} {s : SF} {n : Str} {gs : List Row} (G : Grown us [] (n, onS, -1) gs) (no : ∀ x, ¬ BothR us [(n, onS)] x) : Held us s n gs := by
  obtain ⟨ext, he⟩ := G.head
  refine ⟨G.nd, G.wd, fun d hd e hee => ?_, fun x h1 h2 => ?_, by rw [he]; rfl, fun i g hi hg => ?_⟩
  · obtain ⟨i, g, hg, rfl⟩ := bares_at hd
    exact G.closed i g (Nat.zero_le _) hg e hee
  · obtain ⟨i, g, hg, e1⟩ := bares_at h1
    obtain ⟨j, k, hk, e2⟩ := bares_at h2
    have r1 := G.near i g hg
    have r2 := G.near j k hk
    rw [e1] at r1
    rw [e2] at r2
    exact no x ⟨r1, r2⟩
  · obtain ⟨j, c, _, lt, e, hc, ha⟩ := G.caused i g hi hg
    exact ⟨j, c, lt, e, hc, .inl ha⟩
theorem Held.more {us : List (Str × UF)} {s : SF} {n w : Str} {gs gs' : List Row} {j : Nat} {c : Row} (h : Held us s n gs) (G : Grown us gs (w, onS, (j : Int)) gs') (no : ∀ x, ¬ BothR us (bares gs ++ [(w, onS)]) x) (hj : gs[j]? = some c) (con : c.2.1 = onS) (hw : w ∈ wnt us s c.1) : Held us s n gs' := by
  obtain ⟨ext, he⟩ := G.head
  have jl : j < gs.length := (List.getElem?_eq_some_iff.mp hj).1
  have old : ∀ (i : Nat) (g : Row), gs[i]? = some g → gs'[i]? = some g := fun i g hg => by
    rw [he, List.getElem?_append_left (List.getElem?_eq_some_iff.mp hg).1]
    exact hg
  refine ⟨G.nd, G.wd, fun d hd e hee => ?_, fun x h1 h2 => ?_, old _ _ h.first, fun i g hi hg => ?_⟩
  · obtain ⟨i, g, hg, rfl⟩ := bares_at hd
    by_cases ci : i < gs.length
    · have hg' : gs[i]? = some g := by rw [he, List.getElem?_append_left ci] at hg; exact hg
      obtain ⟨k, g2, hk, rfl⟩ := bares_at (h.cl _ (at_bares hg') e hee)
      exact at_bares (old _ _ hk)
    · exact G.closed i g (by omega) hg e hee
  · obtain ⟨i, g, hg, e1⟩ := bares_at h1
    obtain ⟨k, g2, hk, e2⟩ := bares_at h2
    have r1 := G.near i g hg
    have r2 := G.near k g2 hk
    rw [e1] at r1
    rw [e2] at r2
    exact no x ⟨r1, r2⟩
  · by_cases ci : i < gs.length
    · have hg' : gs[i]? = some g := by rw [he, List.getElem?_append_left ci] at hg; exact hg
      obtain ⟨k, c2, lt, e, hc, ha⟩ := h.why i g hi hg'
      exact ⟨k, c2, lt, e, old _ _ hc, ha⟩
    by_cases c2 : i = gs.length
    · subst c2
      rw [he, List.getElem?_append_right (Nat.le_refl _), Nat.sub_self] at hg
      cases hg
      exact ⟨j, c, jl, rfl, old _ _ hj, .inr ⟨rfl, con, hw⟩⟩
    · obtain ⟨k, c3, _, lt, e, hc, ha⟩ := G.caused i g (by omega) hg
      exact ⟨k, c3, lt, e, hc, .inl ha⟩
/-! ### sums over names -/
def sumF : List Str → (Str → Nat) → Nat
  | [], _ => 0
  | x :: r, f => f x + sumF r f
theorem sumF_le {f g : Str → Nat} : ∀ {ns : List Str}, (∀ x ∈ ns, f x ≤ g x) → sumF ns f ≤ sumF ns g
  | [], _ => Nat.le_refl _
  | x :: r, h => Nat.add_le_add (h x List.mem_cons_self) (sumF_le fun y hy => h y (List.mem_cons_of_mem _ hy))
theorem sumF_const {f : Str → Nat} {k : Nat} : ∀ {ns : List Str}, (∀ x ∈ ns, f x ≤ k) → sumF ns f ≤ k * ns.length
  | [], _ => Nat.le_refl _
  | x :: r, h => by
    have h1 := h x List.mem_cons_self
    have h2 := sumF_const (f := f) (k := k) (ns := r) fun y hy => h y (List.mem_cons_of_mem _ hy)
    rw [List.length_cons, Nat.mul_add, Nat.mul_one]
    show f x + sumF r f ≤ _
    omega
theorem sumF_same {f g : Str → Nat} : ∀ {ns : List Str}, (∀ x ∈ ns, f x = g x) → sumF ns f = sumF ns g
  | [], _ => rfl
  | x :: r, h => by
    show f x + sumF r f = g x + sumF r g
    rw [h x List.mem_cons_self, sumF_same fun y hy => h y (List.mem_cons_of_mem _ hy)]
def bumpF (f : Str → Nat) (x : Str) : Str → Nat := fun y => if y = x then f x + 1 else f y
theorem sumF_bump {f : Str → Nat} {x : Str} : ∀ {ns : List Str}, ns.Nodup → x ∈ ns → sumF ns (bumpF f x) = sumF ns f + 1
  | y :: r, hn, hx => by
    obtain ⟨h1, h2⟩ := List.nodup_cons.mp hn
    show bumpF f x y + sumF r (bumpF f x) = f y + sumF r f + 1
    by_cases c : y = x
    · subst c
      rw [sumF_same (f := bumpF f y) (g := f) (ns := r) fun z hz => if_neg (fun e : z = y => h1 (e ▸ hz))]
      unfold bumpF
      rw [if_pos rfl]
      omega
    · rw [sumF_bump h2 ((List.mem_cons.mp hx).resolve_left fun e => c e.symm)]
      unfold bumpF
      rw [if_neg c]
      omega
theorem wnt_len {us : List (Str × UF)} (G : Sh us) (s : SF) (x : Str) : (wnt us s x).length ≤ 116 := by
  unfold wnt
  by_cases hx : x ∈ us.map (·.1)
  · obtain ⟨u, hfu, hu⟩ := fu_of hx G.nms.nd
    rw [hfu]
    have l1 : u.wants.length ≤ 100 := G.likes _ hu
    have l2 : ((nd us x).filter fun o => decide (o ∈ s.back) && decide (o ∉ u.wants)).length ≤ 16 := Nat.le_trans (List.length_filter_le _ _) (filt_len G.nms _)
    show (u.wants ++ _).length ≤ 116
    rw [List.length_append]
    omega
  · cases e : fu us x with
    | none => exact Nat.zero_le _
    | some u =>
      unfold fu at e
      cases f : us.find? (fun p => decide (p.1 = x)) with
      | none => rw [f] at e; cases e
      | some p => exact absurd (List.mem_map.mpr ⟨p, List.mem_of_find?_eq_some f, of_decide_eq_true (List.find?_some (p := fun p : Str × UF => decide (p.1 = x)) f)⟩) hx
theorem wnt_ok {us : List (Str × UF)} (G : Sh us) {s : SF} {x w : Str} (hx : x ∈ us.map (·.1)) (h : w ∈ wnt us s x) : PyData.strOk w = true := by
  obtain ⟨u, hfu, hu⟩ := fu_of hx G.nms.nd
  unfold wnt at h
  rw [hfu] at h
  rcases List.mem_append.mp h with h | h
  · exact G.okW _ hu w h
  · exact (G.nms.nm w (srt_mem.mp (List.mem_filter.mp (List.mem_filter.mp h).1).1)).ok
theorem nextW_some {us : List (Str × UF)} {s : SF} {rs : List Row} {f : Str → Nat} {x w : Str} (h : nextW us s rs f = some (x, w)) : x ∈ onL rs ∧ (wnt us s x)[f x]? = some w := by
  obtain ⟨a, ha, e⟩ := List.exists_of_findSome?_eq_some h
  cases e2 : (wnt us s a)[f a]? with
  | none => rw [e2] at e; cases e
  | some v =>
    rw [e2] at e
    cases e
    exact ⟨srt_mem.mp ha, e2⟩
theorem LookAt.bump {kvs : List (Key × V)} {f : Str → Nat} (h : LookAt kvs f) (x : Str) : LookAt (putK kvs (Sum.inr x) (.int ((f x : Int) + 1))) (bumpF f x) := fun y => by
  rw [valV_put]
  unfold bumpF
  by_cases c : y = x
  · subst c
    rw [if_pos rfl, if_pos rfl]
    rfl
  · rw [if_neg (fun z => c (by injection z)), if_neg c]
    exact h y
theorem index2 {H : Hp} {K : PySem.W.Frag} {t a : Addr} {d : Str × Str} {xs : List V} {ds : List (Str × Str)} {j : Nat} {Q : VK} (ht : SqT K H t [.str d.1, .str d.2]) (ha : SqL K H a xs) (hx : Prs K H xs ds) (k : Ok2 d) (ks : ∀ d ∈ ds, Ok2 d) (nd : ds.Nodup) (hj : ds[j]? = some d) (q : Q (.int j) H) : rIndexD K (.ref a) [.ref t] H Q := by
  refine ⟨a, .ref t, enc2 d, ds.map enc2, j, enc2 d, rfl, rfl, .lst ha hx.dp, .tup ht (.cons (.str _) (.cons (.str _) .nil)), shapedL2 ks, shaped2 k, by rw [List.getElem?_map, hj]; rfl, by rw [eqv2]; exact decide_eq_true rfl, fun m z hm hz => ?_, q⟩
  rw [List.getElem?_map] at hz
  obtain ⟨e, he, rfl⟩ := Option.map_eq_some_iff.mp hz
  rw [eqv2]
  refine decide_eq_false fun z => ?_
  subst z
  have := (List.getElem?_inj (List.getElem?_eq_some_iff.mp he).1 nd).mp (he.trans hj.symm)
  omega

-- SPLIT
/-! ### all wants, one after another -/
/-- what holds between two rounds -/
structure Round (K : PySem.W.Frag) (us : List (Str × UF)) (s : SF) (n : Str) (H H' : Hp) (D Dd Lk : Addr) (gs : List Row) (f : Str → Nat) : Prop where
  same : Same H H'
  rows : ∃ zs, H' D = some (.lst zs) ∧ TrH H' zs gs
  ne : D ≠ Dd
  held : Held us s n gs
  look : ∃ kvs, H' Lk = some (.dK kvs) ∧ LookAt kvs f ∧ kvs.length ≤ sumF (us.map (·.1)) f
  le : ∀ x, f x ≤ (wnt us s x).length
  drop : ∃ os, H' Dd = some (.lst os) ∧ os.length ≤ sumF (us.map (·.1)) f
def Found (us : List (Str × UF)) (s : SF) (H' : Hp) (gs : List Row) (f : Str → Nat) (v : V) : Prop := v = .non ∨ ∃ t x w, v = .ref t ∧ H' t = some (.tup [.str x, .str w]) ∧ x ∈ onL gs ∧ (wnt us s x)[f x]? = some w
theorem Round.ext {K : PySem.W.Frag} {us : List (Str × UF)} {s : SF} {n : Str} {H H1 H2 : Hp} {D Dd Lk : Addr} {gs : List Row} {f : Str → Nat} (R : Round K us s n H H1 D Dd Lk gs f) (e : Same H1 H2) : Round K us s n H H2 D Dd Lk gs f := by
  obtain ⟨zs, h1, h2⟩ := R.rows
  obtain ⟨kvs, h3, h4, h5⟩ := R.look
  obtain ⟨os, h6, h7⟩ := R.drop
  exact ⟨R.same.trans e, ⟨zs, e _ _ h1, h2.same e⟩, R.ne, R.held, ⟨kvs, e _ _ h3, h4, h5⟩, R.le, ⟨os, e _ _ h6, h7⟩⟩
theorem NextV.found {us : List (Str × UF)} {s : SF} {gs : List Row} {f : Str → Nat} {H H' : Hp} {v : V} (h : NextV us s gs f H H' v) : Found us s H' gs f v := by
  rcases h with ⟨rfl, _⟩ | ⟨t, x, w, rfl, _, ht, e⟩
  · exact .inl rfl
  · exact .inr ⟨t, x, w, rfl, ht, (nextW_some e).1, (nextW_some e).2⟩
theorem WordsOk.good {us : List (Str × UF)} {s : SF} {had : List (Str × Str)} {w : Str} (h : WordsOk us s had w []) : w ∈ us.map (·.1) ∧ ∀ x, ¬ BothR us (had ++ [(w, onS)]) x := by
  rcases h with ⟨_, z⟩ | ⟨hw, _, b1, b2, b3, b4, e, e1, _⟩
  · exact nomatch z
  · refine ⟨hw, fun x hx => ?_⟩
    rw [e1.mpr ⟨x, hx⟩] at e
    exact nomatch e
def sp_with_wants (K : PySem.W.Frag) : Sp := fun vs H Q _ => ∃ (p a c : Addr) (n : Str) (us : List (Str × UF)) (s : SF) (xs : List V) (gs0 : List Row), vs = [.ref p, .ref a, .ref c] ∧ ShelfAt K H p us ∧ Sh us ∧ StandAt K H a s ∧ Fits us s ∧ H c = some (.lst xs) ∧ TrH H xs gs0 ∧ Held us s n gs0 ∧
  ∀ t D Dd zs gs os H', H t = none → Same H H' → H' t = some (.tup [.ref D, .ref Dd]) → H' D = some (.lst zs) → TrH H' zs gs → H' Dd = some (.lst os) → Held us s n gs → Q (.ref t) H'
theorem ok_with_wants (T : Txt K mg) : FnOk P w K mg base CX0 8 (He.fAd K ("with_wants", none)) T.d_with_wants ["shelf", "stand", "core"] (sp_with_wants K) := by
  refine T.F_with_wants.ok sc_with_wants (fun vs H Q E h => ?_) (fun cdv A outer s H vs Q E hr h => ?_)
  · obtain ⟨p, a, c, n, us, s, xs, gs0, rfl, _⟩ := h
    rfl
  · obtain ⟨p, a, c, n, us, s, xs, gs0, rfl, hS, G, hA, F, hc, hT, hH, q⟩ := h
    refine ⟨_, PSs.nox (pss_cons (ps_set (i := 3) sc_with_wants.nd rfl (Or.inl rfl) (pv 2))
      (pss_cons (ps_set (i := 4) sc_with_wants.nd rfl (Or.inl rfl) (pe_lst pa_nil))
      (pss_cons (ps_set (i := 5) sc_with_wants.nd rfl (Or.inl rfl) pe_dnewK)
      (pss_cons (ps_set (i := 6) sc_with_wants.nd rfl (Or.inl rfl) (pe_call (ok_next_want T) (hr.mono (by decide)) (by rfl) T.m_next_want T.F_next_want.kp T.b_next_want .nil pass0 (pa_cons (pv 0) (pa_cons (pv 1) (pa_cons (pv 3) (pa_cons (pv 5) pa_nil))))))
      (pss_cons (ps_while PassesOwn.never (pt_cmpR op_notN (pv 6) pe_non (nomark _))
      (pss_cons (ps_asg (pv 6) (pg_tup rfl (pgs_cons (pg_name (i := 7) sc_with_wants.nd rfl (Or.inl rfl)) (pgs_cons (pg_name (i := 8) sc_with_wants.nd rfl (Or.inl rfl)) pgs_nil))))
      (pss_cons (ps_dput (hu_of hr) (pv 5) (pv 7) (pe_op op_add (pe_dget2 (hu_of hr) (pv 5) (pv 7) pe_int ⟨by rfl, by rfl, by rfl, by rfl⟩) pe_int) rfl)
      (pss_cons (ps_set (i := 9) sc_with_wants.nd rfl (Or.inl rfl) (pe_call (ok_without_causes T) (hr.mono (by decide)) (by rfl) T.m_without_causes T.F_without_causes.kp T.b_without_causes .nil pass0 (pa_cons (pv 3) pa_nil)))
      (pss_mid (ps_if (pt_cmpR (op_notInD (UP.un65 hr)) (pe_tup (pa_cons (pv 8) (pa_cons pe_str pa_nil))) (pv 9) (by rfl))
      (pss_cons (ps_set (i := 10) sc_with_wants.nd rfl (Or.inl rfl) (pe_call (ok_words_of T) (hr.mono (by decide)) (by rfl) T.m_words_of T.F_words_of.kp T.b_words_of .nil pass0 (pa_cons (pv 0) (pa_cons (pv 1) (pa_cons (pv 9) (pa_cons (pv 8) pa_nil))))))
      (pss_one (ps_if (pt_cmpR op_eq (pe_callB (id := "len")  call_len_seq (by rfl) T.n_len (by decide +kernel) (pa_cons (pv 10) pa_nil)) pe_int (nomark _))
      (pss_one (ps_set (i := 3) sc_with_wants.nd rfl (Or.inl rfl) (pe_call (ok_spread T) (hr.mono (by decide)) (by rfl) T.m_spread T.F_spread.kp T.b_spread .nil pass0 (pa_cons (pv 0) (pa_cons (pv 3) (pa_cons (pv 8) (pa_cons pe_str (pa_cons (pe_bm PySem.F.plainAttrs_list PySem.F.slot_list_index PySem.F.type_list_index (mt_indexD (UP.un65 hr)) (pv 9) (pa_cons (pe_tup (pa_cons (pv 7) (pa_cons pe_str pa_nil))) pa_nil)) pa_nil))))))))
      (pss_one (ps_expr (pe_bm PySem.F.plainAttrs_list PySem.F.slot_list_append PySem.F.type_list_append mt_append (pv 4) (pa_cons (pe_tup (pa_cons (pv 7) (pa_cons (pv 8) (pa_cons (pe_ix ix_list (pv 10) pe_int (fun _ _ => rfl)) pa_nil)))) pa_nil)))))))
      pss_nil)
      (pss_one (ps_set (i := 6) sc_with_wants.nd rfl (Or.inl rfl) (pe_call (ok_next_want T) (hr.mono (by decide)) (by rfl) T.m_next_want T.F_next_want.kp T.b_next_want .nil pass0 (pa_cons (pv 0) (pa_cons (pv 1) (pa_cons (pv 3) (pa_cons (pv 5) pa_nil))))))))))))
      (pss_one (ps_ret (pe_tup (pa_cons (pv 3) (pa_cons (pv 4) pa_nil)))))))))), ?_⟩
    have hN := G.nms
    have top : ∀ f : Str → Nat, (∀ x, f x ≤ (wnt us s x).length) → sumF (us.map (·.1)) f ≤ 1856 := fun f hf => by
      have h1 := sumF_const (f := f) (k := 116) (ns := us.map (·.1)) fun x _ => Nat.le_trans (hf x) (wnt_len G s x)
      have h2 := hN.len
      have h3 : 116 * (us.map (·.1)).length ≤ 116 * 16 := Nat.mul_le_mul_left _ h2
      omega
    have few : ∀ gs, Held us s n gs → gs.length ≤ 32 := fun gs h => by
      have := wd_few hN h.nd h.wd
      rwa [List.length_map] at this
    have onN : ∀ gs, Held us s n gs → ∀ x ∈ onL gs, x ∈ us.map (·.1) := fun gs h x hx => (h.wd _ (waysL_mem.mp hx)).1
    refine ⟨_, rfl, by show 0 ≤ sizeLine; decide, fun Dd nDd => ?_⟩
    generalize hE1 : upd H Dd _ = H1
    have w1 := new_at hE1
    have s1 := new_same hE1 nDd
    refine fun Lk nLk => ?_
    generalize hE2 : upd H1 Lk _ = H2
    have w2 := new_at hE2
    have s2 := new_same hE2 nLk
    have s02 := s1.trans s2
    have nLH : H Lk = none := s1.free nLk
    have neDL : Dd ≠ Lk := ne_some w1 nLk
    -- found = next_want(..)
    have R0 : ∀ H3, Same H2 H3 → Round K us s n H H3 c Dd Lk gs0 (fun _ => 0) := fun H3 s3 => ⟨s02.trans s3, ⟨xs, (s02.trans s3) _ _ hc, (hT.same s02).same s3⟩, ne_some hc nDd, hH, ⟨[], s3 _ _ w2, (fun x => rfl), Nat.zero_le _⟩, fun x => Nat.zero_le _, ⟨[], s3 _ _ (s2 _ _ w1), Nat.zero_le _⟩⟩
    refine ⟨_, rfl, _, rfl, _, rfl, _, rfl, p, a, c, Lk, us, s, xs, gs0, [], (fun _ => 0), rfl, hS.same s02, G, hA.same s02, SqL.of (s02 _ _ hc), hT.same s02, by have := few _ hH; omega, onN _ hH, w2, (fun x => rfl), fun v0 H3 s3 hv0 => ?_⟩
    refine ⟨fun m σ H' => ∃ (D : Addr) (gs : List Row) (f : Str → Nat) (v : V) (y7 y8 y9 y10 : Option V), Round K us s n H H' D Dd Lk gs f ∧ Found us s H' gs f v ∧ m = 2000 - sumF (us.map (·.1)) f ∧ σ = [some (.ref p), some (.ref a), some (.ref c), some (.ref D), some (.ref Dd), some (.ref Lk), some v, y7, y8, y9, y10],
      ⟨_, c, gs0, _, v0, none, none, none, none, R0 H3 s3, hv0.found, rfl, rfl⟩, ?_⟩
    clear hv0 s3 R0 w1 w2 hE1 hE2 s1 s2 s02 nLk
    rintro m σ H4 ⟨D, gs, f, v, y7, y8, y9, y10, R, hv, rfl, rfl⟩
    obtain ⟨zs, wD, hG⟩ := R.rows
    obtain ⟨kvs, wL, hK, hkl⟩ := R.look
    obtain ⟨os, wO, hol⟩ := R.drop
    have s4 := R.same
    refine ⟨_, rfl, rfl, _, rfl, ?_⟩
    rcases hv with rfl | ⟨t, x, w, rfl, ht, hx, hw⟩
    · refine neF ⟨_, rfl, _, rfl, by show 2 ≤ sizeLine; decide, fun t nt => ?_⟩
      have s5 : Same H4 (upd H4 t (.tup [.ref D, .ref Dd])) := same_upd nt
      exact q t D Dd zs gs os _ (s4.free nt) (s4.trans s5) upd_same (s5 _ _ wD) (hG.same s5) (s5 _ _ wO) R.held
    rw [decide_eq_false (show ¬ V.ref t = V.non from fun z => nomatch z)]
    refine iteT ⟨_, fun σ' H' h => h, ?_⟩
    have xN : x ∈ us.map (·.1) := onN _ R.held x hx
    have hlt : f x < (wnt us s x).length := (List.getElem?_eq_some_iff.mp hw).1
    have le' : ∀ y, bumpF f x y ≤ (wnt us s y).length := fun y => by
      unfold bumpF
      by_cases c : y = x
      · rw [if_pos c, c]
        exact hlt
      · rw [if_neg c]
        exact R.le y
    have sb := sumF_bump (f := f) hN.nd xN
    have tb := top _ le'
    -- asker, wanted = found; looked[asker] = looked.get(asker, 0) + 1
    refine ⟨_, rfl, t, _, rfl, SqT.of ht, rfl, _, _, rfl, _, _, rfl, rfl, ?_⟩
    refine ⟨_, rfl, Lk, rfl, .inl ⟨kvs, .inl wL⟩, _, rfl, _, DGet.k (k := Sum.inr x) wL, (f x : Int), 1, hK x, rfl, _, rfl, _, rfl, Lk, _, rfl, DPut.k (k := Sum.inr x) wL (small4000 (by omega)), ?_⟩
    generalize hE5 : upd H4 Lk _ = H5
    have wL5 := new_at hE5
    have m5 := mut_keep hE5
    have nt5 : NotTup H4 Lk := .dK wL
    have neD : D ≠ Lk := fun e => by rw [e, wL] at wD; cases wD
    have R5 : Round K us s n H H5 D Dd Lk gs (bumpF f x) := ⟨Same.own s4 m5 nLH, ⟨zs, m5 _ _ wD neD, hG.keep m5 nt5⟩, R.ne, R.held, ⟨_, wL5, hK.bump x, Nat.le_trans (length_putK _ _ _) (by omega)⟩, le', ⟨os, m5 _ _ wO neDL, by omega⟩⟩
    have wD5 := m5 _ _ wD neD
    have hG5 := hG.keep m5 nt5
    have fg := few _ R.held
    -- had = without_causes(demands)
    refine ⟨_, rfl, D, zs, gs, rfl, SqL.of wD5, hG5, by omega, fun L lxs H6 nL s6 wL6 pL => ?_⟩
    have R6 := R5.ext s6
    have okB : ∀ d ∈ bares gs, Ok2 d := fun d hd => wd_ok hN (R.held.wd d hd)
    have xin : (x, onS) ∈ bares gs := waysL_mem.mp hx
    refine ⟨fun σ H' => ∃ (D : Addr) (gs : List Row) (y9 y10 : Option V), Round K us s n H H' D Dd Lk gs (bumpF f x) ∧ σ = [some (.ref p), some (.ref a), some (.ref c), some (.ref D), some (.ref Dd), some (.ref Lk), some (.ref t), some (.str x), some (.str w), y9, y10], ?_, ?_⟩
    · refine ⟨_, rfl, by show 2 ≤ sizeLine; decide, fun t7 nt7 => ⟨_, rfl, ?_⟩⟩
      generalize hE7 : upd H6 t7 _ = H7
      have w7 := new_at hE7
      have s7 := new_same hE7 nt7
      have R7 := R6.ext s7
      have okw : PyData.strOk w = true := wnt_ok G xN (List.mem_of_getElem? hw)
      refine notInD2 (d := (w, onS)) (SqT.of w7) (SqL.of (s7 _ _ wL6)) (pL.same s7).prs ⟨okw, ok_on⟩ okB ⟨_, rfl, ?_⟩
      by_cases cin : (w, onS) ∈ bares gs
      · rw [decide_eq_true cin]
        exact iteF ⟨D, gs, _, _, R7, rfl⟩
      rw [decide_eq_false cin]
      refine iteT ⟨_, rfl, _, rfl, _, rfl, _, rfl, p, a, L, w, us, s, lxs, bares gs, rfl, hS.same R7.same, G, hA.same R7.same, F, s7 _ _ wL6, pL.same s7, R.held.nd, R.held.wd, fun ws Dw H8 nDw s8 wDw good => ?_⟩
      have R8 := R7.ext s8
      have s68 := s7.trans s8
      refine ⟨_, rfl, Dw, _, rfl, .inl (SqL.of wDw), rfl, _, rfl, ?_⟩
      rw [List.length_map]
      cases ws with
      | nil =>
        obtain ⟨wN, nob⟩ := good.good
        refine iteT ?_
        obtain ⟨j, jl, ej⟩ := List.getElem_of_mem xin
        have hj : (bares gs)[j]? = some (x, onS) := by rw [List.getElem?_eq_getElem jl, ej]
        obtain ⟨cr, hcr, ecr⟩ : ∃ cr, gs[j]? = some cr ∧ bare cr = (x, onS) := by
          rw [List.getElem?_map] at hj
          exact Option.map_eq_some_iff.mp hj
        refine ⟨_, rfl, _, rfl, _, rfl, _, rfl, .inl ⟨rfl, _, SqL.of (s68 _ _ wL6)⟩, _, rfl, by show 2 ≤ sizeLine; decide, fun t9 nt9 => ?_⟩
        generalize hE9 : upd H8 t9 _ = H9
        have w9 := new_at hE9
        have s9 := new_same hE9 nt9
        have R9 := R8.ext s9
        have s69 := s68.trans s9
        unfold tNil
        show rIndexD _ _ _ _ _
        refine index2 (d := (x, onS)) (SqT.of w9) (SqL.of (s69 _ _ wL6)) (pL.same s69).prs ⟨(hN.nm _ xN).ok, ok_on⟩ okB R.held.nd hj ?_
        refine ⟨p, D, w, onS, (j : Int), us, zs, gs, rfl, hS.same R9.same, hN, G.few, SqL.of ((s6.trans s69) _ _ wD5), hG5.same (s6.trans s69), ?_, fun d hd => ?_, fun D' zs' gs' H10 nD' s10 wD' hT' grown => ?_⟩
        · show (bares (gs ++ [(w, onS, (j : Int))])).Nodup
          rw [show bares (gs ++ [(w, onS, (j : Int))]) = bares gs ++ [(w, onS)] from List.map_append]
          exact snoc_nodup R.held.nd cin
        · rw [show bares (gs ++ [(w, onS, (j : Int))]) = bares gs ++ [(w, onS)] from List.map_append] at hd
          rcases List.mem_append.mp hd with hd | hd
          · exact R.held.wd d hd
          · rw [List.mem_singleton.mp hd]
            exact ⟨wN, .inl rfl⟩
        · have R10 := R9.ext s10
          obtain ⟨os', wO', hol'⟩ := R9.drop
          refine ⟨D', gs', _, _, ⟨R10.same, ⟨zs', wD', hT'⟩, (ne_some wO' nD').symm, R.held.more grown nob hcr ?_ ?_, R10.look, R10.le, R10.drop⟩, rfl⟩
          · exact congrArg Prod.snd ecr
          · rw [show cr.1 = x from congrArg Prod.fst ecr]
            exact List.mem_of_getElem? hw
      | cons w0 ws =>
        rw [decide_eq_false (show ¬ V.int ((w0 :: ws).length : Nat) = V.int 0 from fun z => by injection z with z; rw [List.length_cons] at z; omega)]
        refine iteF ?_
        have wO8 : H8 Dd = some (.lst os) := s68 _ _ (s6 _ _ (m5 _ _ wO neDL))
        refine ⟨_, rfl, .inl ⟨rfl, _, SqL.of wO8⟩, _, rfl, _, rfl, _, rfl, Dw, _, _, _, rfl, rfl, SqL.of wDw, at0, by show 3 ≤ sizeLine; decide, fun t9 nt9 => ?_⟩
        generalize hE9 : upd H8 t9 _ = H9
        have s9 := new_same hE9 nt9
        have R9 := R8.ext s9
        have wO9 := s9 _ _ wO8
        refine ⟨Dd, _, _, rfl, rfl, wO9, small4000 (by omega), ?_⟩
        generalize hE10 : upd H9 Dd _ = H10
        have wO10 := new_at hE10
        have m10 := mut_keep hE10
        have nt10 : NotTup H9 Dd := .lst wO9
        obtain ⟨zs9, wD9, hG9⟩ := R9.rows
        obtain ⟨kvs9, wL9, hK9, hkl9⟩ := R9.look
        refine ⟨D, gs, _, _, ⟨Same.own R9.same m10 nDd, ⟨zs9, m10 _ _ wD9 R.ne, hG9.keep m10 nt10⟩, R.ne, R.held, ⟨kvs9, m10 _ _ wL9 neDL.symm, hK9, hkl9⟩, le', ⟨_, wO10, ?_⟩⟩, rfl⟩
        rw [List.length_append, sb]
        exact Nat.succ_le_succ hol
    · rintro σ H11 ⟨D', gs', y9', y10', R', rfl⟩
      obtain ⟨zs', wD', hT'⟩ := R'.rows
      obtain ⟨kvs', wL', hK', hkl'⟩ := R'.look
      refine ⟨_, rfl, _, rfl, _, rfl, _, rfl, p, a, D', Lk, us, s, zs', gs', kvs', bumpF f x, rfl, hS.same R'.same, G, hA.same R'.same, SqL.of wD', hT', by have := few _ R'.held; omega, onN _ R'.held, wL', hK', fun v H12 s12 hv => ?_⟩
      exact ⟨_, by omega, D', gs', bumpF f x, v, _, _, _, _, R'.ext s12, hv.found, rfl, rfl⟩

-- SPLIT
/-- f(k = v, ..), where what f lets out is taken by a try -/
def tCallNX (n : Nat) (sp : Sp) (gV : List V → List V → List V) (W : WX) (tk : TA) : TE := fun σ H Q => tk σ H fun zs H2 => zs.length = n ∧ sp (gV [] zs) H2 Q (WE W σ)
theorem pe_callNX {X : Cx} {W : WX} {CX : CXT} {k : Nat} {f : Addr} {fd : FuncData} {ps ks : List Str} {sp : Sp} {x : Str} {p pos : Pos} {kws : List Keyword} {tk : TA} {g : List Value → List Value → List Value} {gV : List V → List V → List V}
    (F : FnOk X.prog X.w X.K X.mg X.base CX k f fd ps sp) (hr : Room k X.A) (hg : Gl X x) (hm : X.mg x = some (.ref f)) (hk : PySem.W.keepIn X.K (.ref f) = true) (hb : KBn X.K fd ps 0 ks g gV) (hx : ∀ σ, PassesAt CX X σ (WE W σ)) (hkw : PK X kws tk)
    (hall : (backToKw pos (keywordEach kws X.env)).all (·.1.isSome) = true := by rfl) (hks : (backToKw pos (keywordEach kws X.env)).filterMap (·.1) = ks := by rfl) (hdb : (x == ("__debug__" : Str)) = false := by decide)
    (hpl : ((backTo pos (starEach [] X.env)).any (·.1) || (backToKw pos (keywordEach kws X.env)).any (·.1.isNone)) = false := by rfl) :
    PE X (.Call (.Name x p) [] kws pos) (tCallNX ks.length sp gV W tk) := ⟨fun pins s σ H Q I h => by
  refine wpAny_Call_Name_kw (ld_glob I hg hm ?_ hdb)
  refine PySem.W.callWith_KW0 (h₀ := X.base) I.ok.mod.kin hk hall ?_ hpl
  refine thn (hkw.run pos pins s σ H _ I h) ?_
  rintro ws s2 ⟨zs, H2, I2, rel, count, good⟩
  refine ⟨I2.kIn, ?_⟩
  rw [hks]
  refine wpAny_call (codeAny_mono (F.run X.A X.stack s2 H2 ⟨[], ks.zip ws⟩ (g [] ws) (gV [] zs) Q _ hr I2.env0 (hb.to s2 [] ws I2.kIn rfl (rel.length.symm.trans count)) (hb.rel .nil rel) good) ?_)
  rintro (er | _ | _ | _ | u) s' out
  · exact hx σ pins H2 s2 er s' I2 out
  · exact False.elim out
  · exact False.elim out
  · exact False.elim out
  · exact I2.after out⟩

/-! ### a plan that turns on -/
def sp_plan_on (K : PySem.W.Frag) : Sp := fun vs H Q E => ∃ (p a : Addr) (n : Str) (us : List (Str × UF)) (s : SF), vs = [.ref p, .ref a, .str n] ∧ ShelfAt K H p us ∧ Sh us ∧ StandAt K H a s ∧ Fits us s ∧ n ∈ us.map (·.1) ∧
  (∀ D o gs os H', H D = none → Same H H' → PlanAt K H' D n onS gs o → SqT K H' o os → Held us s n gs → Q (.ref D) H') ∧
  (∀ d fs H', H d = none → H' d = some (.xd fs) → Same H H' → E (.ref (He.ga K "Lack")) (some d) H') ∧
  (∀ d fs H', H d = none → H' d = some (.xd fs) → Same H H' → E (.ref (He.ga K "Clash")) (some d) H') ∧
  (∀ d fs H', H d = none → H' d = some (.xd fs) → Same H H' → E (.ref (He.ga K "Knot")) (some d) H')
theorem ok_plan_on (T : Txt K mg) : FnOk P w K mg base (L2N.CX P w) 9 (He.fAd K ("plan_on", none)) T.d_plan_on ["shelf", "stand", "name"] (sp_plan_on K) := by
  refine T.F_plan_on.ok sc_plan_on (fun vs H Q E h => ?_) (fun cdv A outer s H vs Q E hr h => ?_)
  · obtain ⟨p, a, n, us, s, rfl, _⟩ := h
    rfl
  · obtain ⟨p, a, n, us, s, rfl, hS, G, hA, F, hn, q, qL, qC, qK⟩ := h
    refine ⟨_, (pss_cons (ps_expr (pe_meth (pv 0) T.cl_Shelf T.me_Shelf_unit (ok_Shelf_unit T) (hr.mono (by decide)) T.b_Shelf_unit .nil pass0 (pa_cons (pv 2) pa_nil)))
      (pss_cons (ps_set (i := 3) sc_plan_on.nd rfl (Or.inl rfl) (pe_call (ok_core_on T) (hr.mono (by decide)) (by rfl) T.m_core_on T.F_core_on.kp T.b_core_on .nil (L2N.passes_call (L2N.takes_of rfl rfl rfl rfl) (fun _ _ _ _ z => z)) (pa_cons (pv 0) (pa_cons (pv 2) pa_nil))))
      (pss_cons (ps_set (i := 4) sc_plan_on.nd rfl (Or.inl rfl) (pe_call (ok_knot_in T) (hr.mono (by decide)) (by rfl) T.m_knot_in T.F_knot_in.kp T.b_knot_in .nil pass0 (pa_cons (pv 0) (pa_cons (pe_call (ok_open_behind T) (hr.mono (by decide)) (by rfl) T.m_open_behind T.F_open_behind.kp T.b_open_behind .nil pass0 (pa_cons (pv 1) (pa_cons (pv 2) (pa_cons (pv 3) pa_nil)))) pa_nil))))
      (pss_cons (ps_if (pt_cmpR op_notN (pv 4) pe_non (nomark _))
      (pss_one (L2N.ps_raise (by rfl) (L2N.takes_of rfl rfl rfl rfl) (UX.pm_own T.ox_Knot.own T.ox_Knot.init T.ox_Knot.fn (ok_Knot_init T) (hr.mono (by decide)) T.b_Knot_init pass0 (by rfl) T.m_Knot (pa_cons (pv 4) pa_nil))))
      pss_nil)
      (pss_cons (ps_asg (pe_call (ok_with_wants T) (hr.mono (by decide)) (by rfl) T.m_with_wants T.F_with_wants.kp T.b_with_wants .nil pass0 (pa_cons (pv 0) (pa_cons (pv 1) (pa_cons (pv 3) pa_nil)))) (pg_tup rfl (pgs_cons (pg_name (i := 5) sc_plan_on.nd rfl (Or.inl rfl)) (pgs_cons (pg_name (i := 6) sc_plan_on.nd rfl (Or.inl rfl)) pgs_nil))))
      (pss_one (ps_ret (pe_make T.mk_Plan (ok_Plan_init T) (hr.mono (by decide)) (by rfl) T.m_Plan T.b2_Plan_init .nil pass0 (pa_cons (pv 2) (pa_cons pe_str (pa_cons (pe_callTy (T := "tuple")  call_tuple_of (by rfl) T.n_tuple (by decide +kernel) (pa_cons (pv 5) pa_nil)) (pa_cons (pe_callTy (T := "tuple")  call_tuple_of (by rfl) T.n_tuple (by decide +kernel) (pa_cons (pv 6) pa_nil)) pa_nil)))))))))))), ?_⟩
    have hN := G.nms
    obtain ⟨dx, dd, kvs, hp, _⟩ := id hS
    refine ⟨_, rfl, p, dx, _, rfl, hp, rfl, _, rfl, p, n, us, rfl, hS, hN, hn, fun a' u hu hA' => ?_⟩
    refine ⟨_, rfl, _, rfl, p, n, us, rfl, hS, G, hn, fun no nob C ys gs H1 nC s1 wC hT grown => ?_, fun no m d l2 H' nd wd e => qL d _ H' nd wd e, fun x no l d H' nd wd e => qC d _ H' nd wd e⟩
    have hH : Held us s n gs := Held.core grown nob
    have few : gs.length ≤ 32 := by
      have := wd_few hN hH.nd hH.wd
      rwa [List.length_map] at this
    obtain ⟨Fsub, Fnd, _, _, _⟩ := id F
    have sW : ∀ x ∈ s.wished, x ∈ us.map (·.1) := fun x hx => Fsub x (by simp only [List.mem_append]; exact .inl (.inl (.inl hx)))
    have sL : ∀ x ∈ s.later, x ∈ us.map (·.1) := fun x hx => Fsub x (by simp only [List.mem_append]; exact .inl (.inr hx))
    have sB : ∀ x ∈ s.back, x ∈ us.map (·.1) := fun x hx => Fsub x (by simp only [List.mem_append]; exact .inr hx)
    have fW := Nat.le_trans (nodup_le _ _ (List.nodup_append.mp (List.nodup_append.mp Fnd).1).1 sW) hN.len
    have fL := Nat.le_trans (nodup_le _ _ (List.nodup_append.mp (List.nodup_append.mp Fnd).1).2.1 sL) hN.len
    have fB := Nat.le_trans (nodup_le _ _ (List.nodup_append.mp Fnd).2.1 sB) hN.len
    -- ring
    refine ⟨_, rfl, _, rfl, _, rfl, _, rfl, a, C, n, s, ys, gs, us.map (·.1), rfl, hA.same s1, SqL.of wC, hT, hN.nd, hN.len, sW, fun x hx => (hH.wd _ (waysL_mem.mp hx)).1, by omega, by omega, by omega, by omega, fun O H2 nO s2 wO => ?_⟩
    have s02 := s1.trans s2
    have oN : (openL (bh (us.map (·.1)) s gs)).Nodup := ((srt_nodup hN.nd).filter _).filter _
    have oS : ∀ x ∈ openL (bh (us.map (·.1)) s gs), x ∈ us.map (·.1) := fun x hx => srt_mem.mp (List.mem_filter.mp (List.mem_filter.mp hx).1).1
    refine ⟨p, O, us, _, rfl, hS.same s02, hN, G.self, wO, oN, oS, fun v H3 s3 hv => ?_⟩
    have s03 := s02.trans s3
    rcases hv with ⟨rfl, nk⟩ | ⟨r, D, rfl, nD, wD, hR, hk⟩
    · refine ⟨_, rfl, rfl, _, rfl, neF ?_⟩
      refine ⟨_, rfl, _, rfl, _, rfl, p, a, C, n, us, s, ys, gs, rfl, hS.same s03, G, hA.same s03, F, (s2.trans s3) _ _ wC, hT.same (s2.trans s3), hH, fun t D Dd zs gs' os H4 nt s4 wt wD hT' wO' hH' => ?_⟩
      refine ⟨t, _, rfl, SqT.of wt, rfl, _, _, rfl, _, _, rfl, rfl, ?_⟩
      refine ⟨_, rfl, _, rfl, D, zs, rfl, .inl ⟨SqL.of wD, fun d nd => ?_⟩⟩
      generalize hE5 : upd H4 d _ = H5
      have w5 := new_at hE5
      have s5 := new_same hE5 nd
      refine ⟨_, rfl, Dd, os, rfl, .inl ⟨SqL.of (s5 _ _ wO'), fun o no' => ?_⟩⟩
      generalize hE6 : upd H5 o _ = H6
      have w6 := new_at hE6
      have s6 := new_same hE6 no'
      have s06 := (s03.trans s4).trans (s5.trans s6)
      refine fun x dx nx ndx ne => ⟨x, dx, _, _, _, _, rfl, upd_same, fun H7 w7 k7 => ⟨rfl, ?_⟩⟩
      have s7 : Same H6 H7 := made_same nx ndx ne k7
      exact q x o gs' os H7 (s06.free nx) (s06.trans s7) ⟨dx, d, zs, w7, SqT.of (s7 _ _ (s6 _ _ w5)), hT'.same ((s5.trans s6).trans s7)⟩ (SqT.of (s7 _ _ w6)) hH'
    · refine ⟨_, rfl, rfl, _, rfl, ?_⟩
      rw [decide_eq_false (show ¬ V.ref D = V.non from fun z => nomatch z)]
      refine iteT ⟨_, rfl, by show 1 ≤ 1000; decide, fun x nx => ?_⟩
      have fr : r.length ≤ 16 := Nat.le_trans (nodup_le r _ hR.nd (fun n h => oS n (hR.sub n h))) hN.len
      refine ⟨x, D, r, rfl, by rw [upd_ne (ne_some wD nx)]; exact wD, fun y hy => hN.nm y (oS y (hR.sub y hy)), fr, upd_same, fun ex l2 H4 nex ne nl2 nlex nlx w4 w4d w4l k4 => ⟨rfl, ex, _, w4, w4d, ?_, ?_⟩⟩
      · rw [upd_ne ne] at nex
        exact nex
      · rw [upd_ne ne] at nex
        refine qK ex _ _ (s03.free nex) upd_same fun b o e => ?_
        have e2 := s03 _ _ e
        have nb : b ≠ x := ne_some e2 nx
        rw [upd_ne (ne_some e2 nex), del_ne nb]
        exact k4 b o nb (by rw [upd_ne nb]; exact e2)

-- SPLIT
/-! ### the wants of a name, by the facts -/
def sp_law_wants (K : PySem.W.Frag) : Sp := fun vs H Q _ => ∃ (d t : Addr) (w : Str) (us : List (Str × UF)) (s : SF), vs = [.ref d, .ref t, .str w] ∧ LF K H d us ∧ (∀ p ∈ us, p.2.wants.length ≤ 100) ∧ FourAt K H t s ∧ w ∈ us.map (·.1) ∧
  ∀ D H', H D = none → Same H H' → H' D = some (.lst ((wnt us s w).map V.str)) → Q (.ref D) H'
theorem ok_law_wants (T : Txt K mg) : FnOk P w K mg base CX0 2 (He.fAd K ("_law_wants", none)) T.d_law_wants ["_law_facts_here", "_law_four", "_law_asker"] (sp_law_wants K) := by
  refine T.F_law_wants.ok sc_law_wants (fun vs H Q E h => ?_) (fun cdv A outer s H vs Q E hr h => ?_)
  · obtain ⟨d, t, w, us, s, rfl, _⟩ := h
    rfl
  · obtain ⟨d, t, w, us, s, rfl, hF, hL, hT, hw, q⟩ := h
    refine ⟨_, PSs.nox (pss_cons (ps_set (i := 3) sc_law_wants.nd rfl (Or.inr rfl) (pe_callTy (T := "list")  call_list_of (by rfl) T.n_list (by decide +kernel) (pa_cons (pe_ix ix_tup (pe_dget (hu_of hr) (pv 0) (pv 2) (fun _ _ => rfl)) pe_int (fun _ _ => rfl)) pa_nil)))
      (pss_one (ps_ret (pe_op op_cat (pv 3) (pe_lc (own := [("_law_one", 4)]) (by rfl) sc_law_wants.nd (pi_list (pe_call (ok_law_needing T) (hr.mono (by decide)) (by rfl) T.m_law_needing T.F_law_needing.kp T.b_law_needing .nil pass0 (pa_cons (pv 0) (pa_cons (pv 2) pa_nil)))) (blkOk_by (own := [("_law_one", 4)]) (N := N_law_wants) (sc := defScope s_law_wants) (by decide +kernel)) (fun _ _ _ _ _ => (pg_name (i := 4) sc_law_wants.nd rfl (Or.inl rfl))) (fun _ _ _ _ _ => (pts_one (PW.pt (pw_and (pt_cmpR (r := rIn K false) op_in_seq (pv 4) (pe_ix (r := UO.rOr (rIxL K) (rIxT K)) (ix_or ix_list ix_tup) (pv 1) pe_int (fun _ _ => rfl)) (by rfl)) (pw_and1 (pt_cmpR (r := rIn K true) op_notIn_seq (pv 4) (pv 3) (by rfl))))))) (fun _ _ _ _ _ => (pv 4))))))), ?_⟩
    have hN := hF.nms
    obtain ⟨u, hfu, hu⟩ := fu_of hw hN.nd
    obtain ⟨kvs, hd, htb⟩ := hF.ex
    obtain ⟨v1, hv1, t1, q1, q2, q3, q4, g1, rfl, wq0, wq1, wq2, _⟩ := htb.get hN.nd (w, u) hu
    refine ⟨_, rfl, _, rfl, d, .ref t1, rfl, by rw [← hv1]; exact DGet.k (k := Sum.inr w) hd, t1, _, _, _, rfl, rfl, wq0, at2, q2, _, rfl, .inr wq2, fun o no => ?_⟩
    generalize hE1 : upd H o _ = H1
    have w1 := new_at hE1
    have s1 := new_same hE1 no
    refine ⟨_, rfl, _, rfl, _, rfl, d, w, us, rfl, hF.same s1, fun l H2 nl s2 wl => ?_⟩
    have s02 := s1.trans s2
    obtain ⟨a1, a2, a3, a4, h0, h1, h2, h3, h4⟩ := id hT
    have ix : ∀ {H' : Hp} {i : Int} {v : V} {Q' : VK}, Same H H' → atI [V.ref a1, V.ref a2, V.ref a3, V.ref a4] i = some v → Q' v H' → UO.rOr (rIxL K) (rIxT K) (.ref t) (.int i) H' Q' := fun {H' i v Q'} e at_ q' => by
      rcases h0 with z | z
      · exact .inl ⟨t, _, i, v, rfl, rfl, SqL.ext z e, at_, q'⟩
      · exact .inr ⟨t, _, i, v, rfl, rfl, tup_same e z, at_, q'⟩
    refine ⟨l, rfl, ⟨_, SqL.of wl⟩, fun D nD => lc_list (xs := (nd us w).map V.str) (fun i H' => Same H2 H' ∧ H' D = some (.lst ((((nd us w).take i).filter fun o => decide (o ∈ s.back) && decide (o ∉ u.wants)).map V.str))) ⟨same_upd nD, upd_same⟩ (fun i H' _ h => SqL.of (h.1 _ _ wl)) ?_ ?_⟩
    · rintro i x H3 hi ⟨s3, w3⟩
      obtain ⟨c, hc, rfl⟩ := map_str_get hi
      have s03 := s02.trans s3
      have few : ((((nd us w).take i).filter fun o => decide (o ∈ s.back) && decide (o ∉ u.wants)).map V.str).length < sizeLine := by
        rw [List.length_map]
        exact Nat.lt_of_le_of_lt (List.length_filter_le _ _) (Nat.lt_of_le_of_lt (List.length_take_le' ..) (Nat.lt_of_le_of_lt (filt_len hN _) (small1000 (by decide))))
      refine ⟨rfl, _, rfl, _, rfl, ix s03 at3 ⟨a4, _, rfl, .inl (SqL.of (s03 _ _ h4)), rfl, strs_flat _, _, rfl, ?_⟩⟩
      rw [inV_str, take_filter_snoc _ hc]
      by_cases c1 : c ∈ s.back
      · rw [decide_eq_true c1]
        refine iteT ⟨_, rfl, _, rfl, o, _, rfl, .inl (SqL.of (s3 _ _ (s2 _ _ w1))), rfl, strs_flat _, _, rfl, ?_⟩
        show if (if true = true then !inV (.str c) (u.wants.map V.str) else _) = true then _ else _
        rw [if_pos rfl, inV_str]
        by_cases c2 : c ∈ u.wants
        · rw [decide_eq_true c2]
          refine iteF ⟨s3, ?_⟩
          rw [decide_eq_false (fun z => z c2), if_neg (by decide), List.append_nil]
          exact w3
        · rw [decide_eq_false c2]
          refine iteT ⟨_, rfl, _, w3, few, Same.own (q := D) s3 (mut_keep rfl) nD, ?_⟩
          rw [decide_eq_true c2, upd_same, if_pos (by decide), List.map_append]
          rfl
      · rw [decide_eq_false c1]
        refine iteF (iteF ⟨s3, ?_⟩)
        rw [if_neg (by rw [Bool.false_and]; exact Bool.false_ne_true), List.append_nil]
        exact w3
    rintro H3 ⟨s3, w3⟩
    rw [List.length_map, List.take_length] at w3
    have s03 := s02.trans s3
    have l1 : (w, u).snd.wants.length ≤ 100 := hL _ hu
    have l2 : ((nd us w).filter fun o => decide (o ∈ s.back) && decide (o ∉ u.wants)).length ≤ 16 := Nat.le_trans (List.length_filter_le _ _) (filt_len hN _)
    refine ⟨o, D, _, _, rfl, rfl, s3 _ _ (s2 _ _ w1), w3, by rw [List.length_map, List.length_map]; exact Nat.le_of_lt (small1000 (by omega)), fun D3 nD3 => ?_⟩
    generalize hE4 : upd H3 D3 _ = H4
    have w4 := new_at hE4
    have s4 := new_same hE4 nD3
    have e : wnt us s w = u.wants ++ (nd us w).filter fun o => decide (o ∈ s.back) && decide (o ∉ u.wants) := by
      unfold wnt
      rw [hfu]
    rw [← List.map_append, ← e] at w4
    exact q D3 H4 (s03.free nD3) (s03.trans s4) w4

-- SPLIT
/-! ### each row has its cause -/
def sp_law_whole (K : PySem.W.Frag) : Sp := fun vs H Q _ => ∃ c : Int, vs = [.int c] ∧ Q (.bl true) H
theorem ok_law_whole (T : Txt K mg) : FnOk P w K mg base CX0 1 (He.fAd K ("_law_whole", none)) T.d_law_whole ["_law_thing"] (sp_law_whole K) := by
  refine T.F_law_whole.ok sc_law_whole (fun vs H Q E h => ?_) (fun cdv A outer s H vs Q E hr h => ?_)
  · obtain ⟨c, rfl, _⟩ := h
    rfl
  · obtain ⟨c, rfl, q⟩ := h
    refine ⟨_, PSs.nox (pss_one (ps_ret (pe_mid (pe_and (pe_callB (id := "isinstance")  call_isi (by rfl) T.n_isinstance (by decide +kernel) (pa_cons (pv 0) (pa_cons (pe_bltn (v := .ty "int") (u := .type "int") (by rfl) T.n_int (by decide +kernel) rfl) pa_nil))) (pe_one (pe_not (pe_callB (id := "isinstance")  call_isi (by rfl) T.n_isinstance (by decide +kernel) (pa_cons (pv 0) (pa_cons (pe_bltn (v := .ty "bool") (u := .type "bool") (by rfl) T.n_bool (by decide +kernel) rfl) pa_nil))))))))), ?_⟩
    refine ⟨fun v H' => H' = H ∧ v = .bl true, ?_, ?_⟩
    · refine ⟨_, rfl, _, _, _, _, true, rfl, .ty "int", .base (.int c), kit_ty (by decide +kernel), _, rfl, iteT ?_⟩
      exact ⟨_, rfl, _, _, _, _, false, rfl, .ty "bool", .base (.int c), kit_ty (by decide +kernel), _, rfl, rfl, rfl⟩
    · rintro v H' ⟨rfl, rfl⟩
      exact q
theorem TrH.at {H : Hp} {xs : List V} {rs : List Row} {i : Nat} {r : Row} (h : TrH H xs rs) (e : rs[i]? = some r) : ∃ t, xs[i]? = some (.ref t) ∧ H t = some (.tup [.str r.1, .str r.2.1, .int r.2.2]) := by
  induction h generalizing i with
  | nil => simp at e
  | @cons t r' _ _ a _ ih =>
    cases i with
    | zero =>
      cases e
      exact ⟨t, rfl, a⟩
    | succ i => exact ih e
/-- a row stands rightly -/
def RowOk (us : List (Str × UF)) (s : SF) (gs : List Row) (i : Nat) (g : Row) : Prop :=
  (i = 0 → g.2.2 = -1) ∧ (0 < i → ∃ (j : Nat) (c : Row), j < i ∧ g.2.2 = (j : Int) ∧ gs[j]? = some c ∧ (bare g ∈ ao us (bare c) ∨ (g.2.1 = onS ∧ c.2.1 = onS ∧ g.1 ∈ wnt us s c.1)))
def sp_law_caused (K : PySem.W.Frag) : Sp := fun vs H Q _ => ∃ (d t l : Addr) (i : Nat) (us : List (Str × UF)) (s : SF) (xs : List V) (gs : List Row) (g : Row), vs = [.ref d, .ref t, .ref l, .int i] ∧ LF K H d us ∧ NBr us ∧ (∀ p ∈ us, p.2.wants.length ≤ 100) ∧ FourAt K H t s ∧ SqT K H l xs ∧ TrH H xs gs ∧ (∀ d ∈ bares gs, WD us d) ∧ gs[i]? = some g ∧ RowOk us s gs i g ∧
  ∀ H', Same H H' → Q (.bl true) H'
theorem ok_law_caused (T : Txt K mg) : FnOk P w K mg base CX0 3 (He.fAd K ("_law_caused", none)) T.d_law_caused ["_law_facts_here", "_law_four", "_law_demands", "_law_spot"] (sp_law_caused K) := by
  refine T.F_law_caused.ok sc_law_caused (fun vs H Q E h => ?_) (fun cdv A outer s H vs Q E hr h => ?_)
  · obtain ⟨d, t, l, i, us, s, xs, gs, g, rfl, _⟩ := h
    rfl
  · obtain ⟨d, t, l, i, us, s, xs, gs, g, rfl, hF, hB, hL, hT, hl, hG, hW, hg, ok, q⟩ := h
    refine ⟨_, PSs.nox (pss_cons (ps_asg (pe_ix ix_tup (pv 2) (pv 3) (fun _ _ => rfl)) (pg_tup rfl (pgs_cons (pg_name (i := 4) sc_law_caused.nd rfl (Or.inl rfl)) (pgs_cons (pg_name (i := 5) sc_law_caused.nd rfl (Or.inl rfl)) (pgs_cons (pg_name (i := 6) sc_law_caused.nd rfl (Or.inl rfl)) pgs_nil)))))
      (pss_cons (ps_if (pt_mid (PW.pt (pw_or (pt_not (pt_val (pe_call (ok_law_whole T) (hr.mono (by decide)) (by rfl) T.m_law_whole T.F_law_whole.kp T.b_law_whole .nil pass0 (pa_cons (pv 6) pa_nil)))) (pw_or (pt_not (pt_val (pe_callB (id := "isinstance")  call_isi (by rfl) T.n_isinstance (by decide +kernel) (pa_cons (pv 4) (pa_cons (pe_bltn (v := .ty "str") (u := .type "str") (by rfl) T.n_str (by decide +kernel) rfl) pa_nil))))) (pw_or1 (pt_cmpR op_notIn_seq (pv 5) (pe_tup (pa_cons pe_str (pa_cons pe_str pa_nil))) (by rfl)))))))
      (pss_one (ps_ret pe_bl))
      pss_nil)
      (pss_cons (ps_if (pt_mid (pt_cmpR op_eq (pv 3) pe_int (nomark _)))
      (pss_one (ps_ret (pe_cmpR op_eq (pv 6) (pe_un un_neg pe_int) (nomark _))))
      pss_nil)
      (pss_cons (ps_if (pt_mid (pt_not (pt_chain op_le op_lt pe_int (pv 6) (pv 3))))
      (pss_one (ps_ret pe_bl))
      pss_nil)
      (pss_cons (ps_set (i := 7) sc_law_caused.nd rfl (Or.inl rfl) (pe_slice sl_tupA (pe_ix ix_tup (pv 2) (pv 6) (fun _ _ => rfl)) po_none (po_some pe_int)))
      (pss_cons (ps_if (pt_mid (pt_cmpR (op_inD (UP.un65 hr)) (pe_tup (pa_cons (pv 4) (pa_cons (pv 5) pa_nil))) (pe_call (ok_law_next T) (hr.mono (by decide)) (by rfl) T.m_law_next T.F_law_next.kp T.b_law_next .nil pass0 (pa_cons (pv 0) (pa_cons (pv 7) pa_nil))) (by rfl)))
      (pss_one (ps_ret pe_bl))
      pss_nil)
      (pss_one (ps_ret (pe_mid (pe_and (pe_cmpR op_eq (pv 5) pe_str (nomark _)) (pe_and (pe_cmpR op_eq (pe_ix ix_tup (pv 7) pe_int (fun _ _ => rfl)) pe_str (nomark _)) (pe_one (pe_cmpR op_in_seq (pv 4) (pe_call (ok_law_wants T) (hr.mono (by decide)) (by rfl) T.m_law_wants T.F_law_wants.kp T.b_law_wants .nil pass0 (pa_cons (pv 0) (pa_cons (pv 1) (pa_cons (pe_ix ix_tup (pv 7) pe_int (fun _ _ => rfl)) pa_nil)))) (by rfl)))))))))))))), ?_⟩
    have hN := hF.nms
    obtain ⟨tr, hx, htr⟩ := hG.at hg
    have gW : WD us (bare g) := hW _ (at_bares hg)
    -- word, way, cause = demands[spot]
    refine ⟨_, rfl, _, rfl, l, _, _, _, rfl, rfl, hl, atI_nat hx, tr, _, rfl, SqT.of htr, rfl, _, _, rfl, _, _, rfl, _, _, rfl, rfl, ?_⟩
    refine ⟨fun b H' => b = false ∧ Same H H', ?_, ?_⟩
    · refine ⟨_, rfl, g.2.2, rfl, true, rfl, iteF ?_⟩
      refine ⟨_, rfl, _, _, _, _, true, rfl, .ty "str", .base (.str _), kit_ty (by decide +kernel), true, rfl, iteF ?_⟩
      refine ⟨_, rfl, by show 2 ≤ sizeLine; decide, fun tw ntw => ⟨tw, _, rfl, .inr (SqT.of upd_same), rfl, rfl, _, rfl, ?_, same_upd ntw⟩⟩
      show (if true = true then !inV (.str g.2.1) ([onS, offS].map V.str) else _) = false
      rw [if_pos rfl, inV_str, decide_eq_true]
      · rfl
      · rcases gW.2 with e | e
        · rw [show g.2.1 = onS from e]
          exact List.mem_cons_self
        · rw [show g.2.1 = offS from e]
          exact List.mem_cons_of_mem _ List.mem_cons_self
    rintro b H1 ⟨rfl, s1⟩
    refine iteF ?_
    -- spot == 0
    by_cases ci : i = 0
    · refine ⟨fun b H' => b = true ∧ H' = H1, ⟨_, rfl, rfl, _, rfl, decide_eq_true (by rw [ci]; rfl), rfl⟩, ?_⟩
      rintro b H2 ⟨rfl, rfl⟩
      refine iteT ⟨_, rfl, _, rfl, rfl, ?_⟩
      rw [decide_eq_true (show V.int g.2.2 = V.int (-1) by rw [ok.1 ci])]
      exact q H2 s1
    refine ⟨fun b H' => b = false ∧ H' = H1, ⟨_, rfl, rfl, _, rfl, decide_eq_false (fun z => ci (by injection z with z; omega)), rfl⟩, ?_⟩
    rintro b H2 ⟨rfl, rfl⟩
    refine iteF ?_
    obtain ⟨j, c, lt, ec, hc, hwhy⟩ := ok.2 (by omega)
    -- not 0 <= cause < spot
    refine ⟨fun b H' => b = false ∧ H' = H2, ?_, ?_⟩
    · refine ⟨_, rfl, 0, g.2.2, rfl, rfl, _, rfl, ?_⟩
      rw [ec]
      refine iteYd (by omega) ⟨_, rfl, _, _, rfl, rfl, _, rfl, ?_, rfl⟩
      rw [decide_eq_true (show (j : Int) < (i : Int) by omega)]
      rfl
    rintro b H3 ⟨rfl, rfl⟩
    refine iteF ?_
    -- one = demands[cause][:2]
    obtain ⟨tc, hxc, htc⟩ := hG.at hc
    have cW : WD us (bare c) := hW _ (at_bares hc)
    refine ⟨_, rfl, _, rfl, l, _, _, _, rfl, rfl, tup_same s1 hl, by rw [ec]; exact atI_nat hxc, _, rfl, tc, _, rfl, SqT.of (s1 _ _ htc), (fun z => absurd z.2 (show HT.sIx 3 3 (some 2) ≠ 3 by decide)), fun _ t2 n2 => ?_⟩
    rw [show cutV [V.str c.1, V.str c.2.1, V.int c.2.2] none (some 2) = [V.str c.1, V.str c.2.1] from cutV_to (n := 2)]
    generalize hE4 : upd H3 t2 _ = H4
    have w4 := new_at hE4
    have s4 := new_same hE4 n2
    have s04 := s1.trans s4
    -- (word, way) in next(facts, one)
    refine ⟨fun b H' => Same H4 H' ∧ b = decide (bare g ∈ nx us (bare c)), ?_, ?_⟩
    · refine ⟨_, rfl, _, rfl, by show 2 ≤ sizeLine; decide, fun t5 n5 => ?_⟩
      generalize hE5 : upd H4 t5 _ = H5
      have w5 := new_at hE5
      have s5 := new_same hE5 n5
      refine ⟨_, rfl, _, rfl, d, t2, us, bare c, rfl, hF.same (s04.trans s5), hB, SqT.of (s5 _ _ w4), cW.1, fun L ys H6 nL s6 w6 p6 few => ?_⟩
      have nW : ∀ e ∈ nx us (bare c), Ok2 e := fun e he => wd_ok hN (ao_wd (nx_mem.mp he))
      exact inD2 (d := bare g) (SqT.of (s6 _ _ w5)) (SqL.of w6) p6.prs (wd_ok hN gW) nW ⟨_, rfl, s5.trans s6, rfl⟩
    rintro b H5 ⟨s5, rfl⟩
    by_cases cn : bare g ∈ nx us (bare c)
    · rw [decide_eq_true cn]
      exact iteT (q H5 (s04.trans s5))
    rw [decide_eq_false cn]
    refine iteF ?_
    rcases hwhy with ha | ⟨gon, con, hw⟩
    · exact absurd (nx_mem.mpr ha) cn
    have s05 := s04.trans s5
    refine ⟨fun v H' => v = .bl true ∧ Same H5 H', ?_, ?_⟩
    · refine ⟨_, rfl, rfl, _, rfl, ?_⟩
      rw [decide_eq_true (show V.str g.2.1 = V.str onS by rw [gon])]
      refine iteT ⟨_, rfl, t2, _, _, _, rfl, rfl, SqT.of (s5 _ _ w4), at1, rfl, _, rfl, ?_⟩
      rw [decide_eq_true (show V.str c.2.1 = V.str onS by rw [con])]
      refine iteT ⟨_, rfl, _, rfl, _, rfl, _, rfl, t2, _, _, _, rfl, rfl, SqT.of (s5 _ _ w4), at0, d, t, c.1, us, s, rfl, hF.same s05, hL, hT.same s05, cW.1, fun D H6 nD s6 w6 => ⟨D, _, rfl, .inl (SqL.of w6), rfl, strs_flat _, ?_, s6⟩⟩
      show V.bl (if false = true then _ else inV (.str g.1) ((wnt us s c.1).map V.str)) = .bl true
      rw [if_neg Bool.false_ne_true, inV_str, decide_eq_true hw]
    rintro v H6 ⟨rfl, s6⟩
    exact q H6 (s05.trans s6)

-- SPLIT
/-! ### len of an own instance -/
section
open PySem PySem.Spec PyProof.Rows
variable {X : Cx} {CX : CXT} {n : Nat} {f C : Addr} {fd : FuncData} {ps : List Str} {sp : Sp} {E : XK}
def rLenO (C : Addr) (sp : Sp) (E : XK) : List V → Hp → VK → Prop := fun xs H Q => ∃ a dx fs, xs = [.ref a] ∧ H a = some (.ins C dx fs) ∧ sp xs H (fun v H' => ∃ z : Nat, v = .int z ∧ z ≤ 1000 ∧ Q (.int z) H') E
theorem call_lenO (F : FnOk X.prog X.w X.K X.mg X.base CX n f fd ps sp) (hs : PySem.W.findIn X.K (.ref C) "__len__" = some (some (.ref f))) (hf : PySem.W.isFn X.K (.ref f) = true) (hb : Binds X.K fd ps []) (hx : Passes CX X E) (hr : Room (n + 1) X.A) :
    CallR X (.builtin "len") (rLenO C sp E) := fun pins s σ H xs us Q I r h => by
  obtain ⟨a, dx, fs, rfl, ha, q⟩ := h
  cases Vals.ref1 r
  obtain ⟨mA, J, _⟩ := ins_get I.hok ha
  obtain ⟨od, J, _⟩ := J.look
  obtain ⟨m, fr⟩ := I.fr
  have sb : L2.Sub X (n + 1) X.A := ⟨hr, rfl⟩
  refine PySem.W.len_K fr I.ok.mod.kin J hs hf (wpAny_mono (UO.call_sub F hb hx sb.in1 I (show Vals [V.ref a] [Value.ref a] from .cons rfl .nil) q) ?_ fun _ _ x => x)
  rintro v s' ⟨_, H', I', rv, z, rfl, few, done⟩
  obtain ⟨t, rfl⟩ := rv
  exact ⟨⟨by omega, by omega⟩, .int z, H', I'.tok _, ⟨_, rfl⟩, done⟩
end

/-! ### a plan stands rightly -/
theorem neD_alike {H : Hp} {x y : V} {D : PyData} {Q : VK} (h1 : Dp K H x D) (h2 : Dp K H y D) (sh : SeqAt.shaped D = true) (q : Q (.bl false) H) : rNeD K x y H Q := by
  refine ⟨D, D, h1, h2, sh, sh, ?_⟩
  rw [SeqAt.eqv_refl D (Bool.and_eq_true_iff.mp sh).1]
  exact q
theorem shaped_row {x y : Str} {c : Int} (h : PyData.strOk x = true) (g : PyData.strOk y = true) : SeqAt.shaped (.tuple [.str x, .str y, .int c]) = true := by
  refine Bool.and_eq_true_iff.mpr ⟨?_, decide_eq_true ?_⟩
  · simp [PyData.canLay0, PyData.canLayAll0, h, g]
  · simp [PyData.depth, PyData.depthAll]
theorem tyT {K : PySem.W.Frag} {H : Hp} {a : Addr} {xs : List V} (h : SqT K H a xs) : TyX K H (.ref a) (.type "tuple") := by
  rcases h with (e | ⟨o, e⟩) | ⟨o, _, _, e, c, _⟩
  · exact .base (.tup e)
  · exact .fTuple e
  · exact .kTuple e c
def sp_law_right (K : PySem.W.Frag) : Sp := fun vs H Q _ => ∃ (d t pl o : Addr) (w y : Str) (us : List (Str × UF)) (s : SF) (gs : List Row), vs = [.ref d, .ref t, .ref pl, .str w, .str y] ∧ LF K H d us ∧ NBr us ∧ (∀ p ∈ us, p.2.wants.length ≤ 100) ∧ FourAt K H t s ∧ PlanAt K H pl w y gs o ∧ (∀ d ∈ bares gs, WD us d) ∧ (gs.map (·.1)).Nodup ∧ gs.length ≤ 40 ∧ gs[0]? = some (w, y, -1) ∧ (∀ (i : Nat) (g : Row), gs[i]? = some g → RowOk us s gs i g) ∧
  ∀ H', Same H H' → Q (.bl true) H'
theorem ok_law_right (T : Txt K mg) : FnOk P w K mg base CX0 10 (He.fAd K ("_law_right", none)) T.d_law_right ["_law_facts_here", "_law_four", "_law_told", "_law_word", "_law_way"] (sp_law_right K) := by
  refine T.F_law_right.ok sc_law_right (fun vs H Q E h => ?_) (fun cdv A outer s H vs Q E hr h => ?_)
  · obtain ⟨d, t, pl, o, w, y, us, s, gs, rfl, _⟩ := h
    rfl
  · obtain ⟨d, t, pl, o, w, y, us, s, gs, rfl, hF, hB, hL, hT4, hP, hW, nd, few, h0, ok, q⟩ := h
    refine ⟨_, PSs.nox (pss_cons (ps_set (i := 5) sc_law_right.nd rfl (Or.inr rfl) (pe_fld (pv 2) rfl))
      (pss_cons (ps_if (pt_mid (PW.pt (pw_or (pt_not (pt_val (pe_callB (id := "isinstance")  call_isi (by rfl) T.n_isinstance (by decide +kernel) (pa_cons (pv 5) (pa_cons (pe_bltn (v := .ty "tuple") (u := .type "tuple") (by rfl) T.n_tuple (by decide +kernel) rfl) pa_nil))))) (pw_or (pt_cmpR op_ne (pe_callB (id := "len")  (call_lenO (ok_Plan_len T) T.me_Plan_len.at_ T.me_Plan_len.fn T.b_Plan_len pass0 (hr.mono (by decide))) (by rfl) T.n_len (by decide +kernel) (pa_cons (pv 2) pa_nil)) (pe_callB (id := "len")  call_len_seq (by rfl) T.n_len (by decide +kernel) (pa_cons (pv 5) pa_nil)) (nomark _)) (pw_or1 (pt_cmpR (op_neD hr.units) (pe_ix ix_tup (pv 5) pe_int (fun _ _ => rfl)) (pe_tup (pa_cons (pv 3) (pa_cons (pv 4) (pa_cons (pe_op op_sub pe_int pe_int) pa_nil)))) (nomark _)))))))
      (pss_one (ps_ret pe_bl))
      pss_nil)
      (pss_cons (ps_if (pt_mid (pt_not (pt_val (pe_callB (id := "all")  (cr_all rfl) (by rfl) T.n_all (by decide +kernel) (pa_cons (pe_lc (own := [("_law_one", 7)]) (by rfl) sc_law_right.nd (pi_tup (pv 5)) (blkOk_by (own := [("_law_one", 7)]) (N := N_law_right) (sc := defScope s_law_right) (by decide +kernel)) (fun _ _ _ _ _ => (pg_name (i := 7) sc_law_right.nd rfl (Or.inl rfl))) (fun _ _ _ _ _ => pts_nil) (fun _ _ _ _ _ => (pe_mid (pe_and (pe_callB (id := "isinstance")  (r := rIsi K) call_isi (by rfl) T.n_isinstance (by decide +kernel) (pa_cons (pv 7) (pa_cons (pe_bltn (v := .ty "tuple") (u := .type "tuple") (by rfl) T.n_tuple (by decide +kernel) rfl) pa_nil))) (pe_one (pe_cmpR op_eq (pe_callB (id := "len")  (r := Evl.rLenS K) call_len_seq (by rfl) T.n_len (by decide +kernel) (pa_cons (pv 7) pa_nil)) pe_int (nomark _))))))) pa_nil)))))
      (pss_one (ps_ret pe_bl))
      pss_nil)
      (pss_cons (ps_if (pt_mid (PW.pt (pw_or (pt_cmpR op_ne (pe_callB (id := "len")  UP.cr_lenTx (by rfl) T.n_len (by decide +kernel) (pa_cons (pe_callTy (T := "set")  (UP.cr_setTx rfl) (by rfl) T.n_set (by decide +kernel) (pa_cons (pe_lc (own := [("_law_one", 7)]) (by rfl) sc_law_right.nd (pi_tup (pv 5)) (blkOk_by (own := [("_law_one", 7)]) (N := N_law_right) (sc := defScope s_law_right) (by decide +kernel)) (fun _ _ _ _ _ => (pg_name (i := 7) sc_law_right.nd rfl (Or.inl rfl))) (fun _ _ _ _ _ => pts_nil) (fun _ _ _ _ _ => (pe_ix (r := rIxT K) ix_tup (pv 7) pe_int (fun _ _ => rfl)))) pa_nil)) pa_nil)) (pe_callB (id := "len")  call_len_seq (by rfl) T.n_len (by decide +kernel) (pa_cons (pv 5) pa_nil)) (nomark _)) (pw_or1 (pt_cmpR (op_neD hr.units) (pe_tup (pa_cons (pe_fld (pv 2) rfl) (pa_cons (pe_fld (pv 2) rfl) pa_nil))) (pe_tup (pa_cons (pv 3) (pa_cons (pv 4) pa_nil))) (nomark _))))))
      (pss_one (ps_ret pe_bl))
      pss_nil)
      (pss_one (ps_ret (pe_callB (id := "all")  (cr_all rfl) (by rfl) T.n_all (by decide +kernel) (pa_cons (pe_lc (own := [("_law_spot", 6)]) (by rfl) sc_law_right.nd (pi_range1 (by rfl) T.n_range (pa_cons (pe_callB (id := "len")  call_len_seq (by rfl) T.n_len (by decide +kernel) (pa_cons (pv 5) pa_nil)) pa_nil)) (blkOk_by (own := [("_law_spot", 6)]) (N := N_law_right) (sc := defScope s_law_right) (by decide +kernel)) (fun _ _ _ _ _ => (pg_name (i := 6) sc_law_right.nd rfl (Or.inl rfl))) (fun _ _ _ _ _ => pts_nil) (fun _ _ _ _ _ => (pe_call (ok_law_caused T) (hr.mono (by decide)) (by rfl) T.m_law_caused T.F_law_caused.kp T.b_law_caused .nil pass0 (pa_cons (pv 0) (pa_cons (pv 1) (pa_cons (pv 5) (pa_cons (pv 6) pa_nil))))))) pa_nil)))))))), ?_⟩
    have hN := hF.nms
    obtain ⟨dx, dd, xs, hp0, hdd, hT⟩ := id hP
    have w0 : WD us (w, y) := hW _ (at_bares h0)
    have ok0 := wd_ok hN w0
    -- demands = told.demands
    refine ⟨_, rfl, pl, _, dx, _, _, rfl, hp0, T.cl_Plan, T.na_Plan_demands, rfl, ?_⟩
    refine ⟨fun b H' => b = false ∧ Same H H', ?_, ?_⟩
    · refine ⟨_, rfl, _, _, _, _, true, rfl, .ty "tuple", tyT hdd, kit_ty (by decide +kernel), true, rfl, iteF ?_⟩
      refine ⟨_, rfl, pl, dx, _, rfl, hp0, pl, o, w, y, gs, rfl, hP, gs.length, rfl, by omega, _, rfl, dd, _, rfl, .inr hdd, rfl, _, rfl, ?_⟩
      rw [hT.len]
      refine neF ?_
      obtain ⟨t0, hx0, ht0⟩ := hT.at h0
      refine ⟨_, rfl, dd, _, _, _, rfl, rfl, hdd, atI_nat (j := 0) hx0, _, rfl, _, rfl, _, _, rfl, rfl, by show 3 ≤ sizeLine; decide, fun t1 n1 => ?_⟩
      have s1 : Same H (upd H t1 (.tup [.str w, .str y, .int (-1)])) := same_upd n1
      exact neD_alike (.tup (SqT.of (s1 _ _ ht0)) (.cons (.str _) (.cons (.str _) (.cons (.int _) .nil)))) (.tup (SqT.of upd_same) (.cons (.str _) (.cons (.str _) (.cons (.int _) .nil)))) (shaped_row ok0.1 ok0.2) ⟨_, rfl, rfl, s1⟩
    rintro b H1 ⟨rfl, s1⟩
    refine iteF ?_
    -- all are tuples of three
    refine ⟨fun b H' => b = false ∧ Same H1 H', ?_, ?_⟩
    · refine ⟨_, rfl, dd, rfl, ⟨_, tup_same s1 hdd⟩, fun D nD => lc_tup (K := K) (a := dd) (xs := xs) (fun i H' => Same H1 H' ∧ H' D = some (.lst ((List.replicate i true).map V.bl))) ⟨same_upd nD, upd_same⟩ (fun i H' _ h => tup_same (s1.trans h.1) hdd) ?_ ?_⟩
      · rintro i x H2 hi ⟨s2, w2⟩
        obtain ⟨tr, r, rfl, hr, htr⟩ := hT.get hi
        have htr2 := (s1.trans s2) _ _ htr
        have lt : i < gs.length := (List.getElem?_eq_some_iff.mp hr).1
        refine ⟨rfl, yes_of (iteT ⟨fun v H' => H' = H2 ∧ v = .bl true, ?_, ?_⟩)⟩
        · refine ⟨_, rfl, _, _, _, _, true, rfl, .ty "tuple", .base (.tup htr2), kit_ty (by decide +kernel), true, rfl, iteT ?_⟩
          exact ⟨_, rfl, tr, _, rfl, .inr (SqT.of htr2), rfl, rfl, rfl⟩
        · rintro v H' ⟨rfl, rfl⟩
          refine ⟨_, w2, by rw [List.length_map, List.length_replicate]; exact small1000 (by omega), Same.own (q := D) s2 (mut_keep rfl) nD, ?_⟩
          rw [upd_same, List.replicate_succ', List.map_append]
          rfl
      · rintro H2 ⟨s2, w2⟩
        refine ⟨D, _, rfl, SqL.of w2, true, ?_, rfl, s2⟩
        rw [show (List.replicate xs.length true).all id = true from List.all_eq_true.mpr fun b hb => List.eq_of_mem_replicate hb]
    rintro b H2 ⟨rfl, s2⟩
    refine iteF ?_
    have s02 := s1.trans s2
    -- no name twice, its name and its way
    refine ⟨fun b H' => b = false ∧ Same H2 H', ?_, ?_⟩
    · refine ⟨_, rfl, dd, rfl, ⟨_, tup_same s02 hdd⟩, fun D nD => lc_tup (K := K) (a := dd) (xs := xs) (fun i H' => Same H2 H' ∧ H' D = some (.lst (((gs.take i).map (·.1)).map V.str))) ⟨same_upd nD, upd_same⟩ (fun i H' _ h => tup_same (s02.trans h.1) hdd) ?_ ?_⟩
      · rintro i x H3 hi ⟨s3, w3⟩
        obtain ⟨tr, r, rfl, hr, htr⟩ := hT.get hi
        have htr3 := (s02.trans s3) _ _ htr
        have lt : i < gs.length := (List.getElem?_eq_some_iff.mp hr).1
        refine ⟨rfl, yes_of (iteT ⟨_, rfl, tr, _, _, _, rfl, rfl, SqT.of htr3, at0, _, w3, ?_, Same.own (q := D) s3 (mut_keep rfl) nD, ?_⟩)⟩
        · rw [List.length_map, List.length_map]
          exact Nat.lt_of_le_of_lt (List.length_take_le' ..) (small1000 (by omega))
        · rw [upd_same, take_snoc hr, List.map_append, List.map_append]
          rfl
      · rintro H3 ⟨s3, w3⟩
        rw [hT.len, List.take_length] at w3
        have s03 := s02.trans s3
        refine ⟨D, _, rfl, SqL.of w3, by rw [List.length_map]; omega, fun p2 ds np2 dnd dmem => ?_⟩
        have len : ds.length = gs.length := by
          have := (List.perm_ext_iff_of_nodup dnd nd).mpr dmem
          rw [this.length_eq, List.length_map]
        generalize hE4 : upd H3 p2 _ = H4
        have w4 := new_at hE4
        have s4 := new_same hE4 np2
        have s04 := s03.trans s4
        have hp4 := s04 _ _ hp0
        refine ⟨p2, _, _, rfl, w4, by omega, _, rfl, dd, _, rfl, .inr (tup_same s04 hdd), rfl, _, rfl, ?_⟩
        rw [hT.len, len]
        refine neF ⟨_, rfl, pl, _, dx, _, _, rfl, hp4, T.cl_Plan, T.na_Plan_name, rfl, _, rfl, pl, _, dx, _, _, rfl, hp4, T.cl_Plan, T.na_Plan_way, rfl, by show 2 ≤ sizeLine; decide, fun t5 n5 => ?_⟩
        generalize hE5 : upd H4 t5 _ = H5
        have w5 := new_at hE5
        have s5 := new_same hE5 n5
        refine ⟨_, rfl, _, rfl, by show 2 ≤ sizeLine; decide, fun t6 n6 => ?_⟩
        generalize hE6 : upd H5 t6 _ = H6
        have w6 := new_at hE6
        have s6 := new_same hE6 n6
        exact neD_alike (.tup (SqT.of (s6 _ _ w5)) (.cons (.str _) (.cons (.str _) .nil))) (.tup (SqT.of w6) (.cons (.str _) (.cons (.str _) .nil))) (shaped2 (d := (w, y)) ok0) ⟨_, rfl, rfl, (s3.trans s4).trans (s5.trans s6)⟩
    rintro b H3 ⟨rfl, s3⟩
    refine iteF ?_
    have s03 := s02.trans s3
    have hdd3 := tup_same s03 hdd
    have xl := hT.len
    refine ⟨_, rfl, dd, _, rfl, .inr hdd3, _, rfl, by omega, by omega, fun D nD => ?_⟩
    refine lc_range (lo := 0) (n := (xs.length : Int).toNat) (fun i H' => Same H3 H' ∧ H' D = some (.lst ((List.replicate i true).map V.bl))) ⟨same_upd nD, upd_same⟩ ?_ ?_
    · rintro i H4 hi ⟨s4, w4⟩
      have lt : i < gs.length := by omega
      have hgi : gs[i]? = some gs[i] := List.getElem?_eq_getElem lt
      have s04 := s03.trans s4
      refine ⟨rfl, yes_of (iteT ⟨_, rfl, _, rfl, _, rfl, _, rfl, d, t, dd, i, us, s, xs, gs, gs[i], by rw [Int.zero_add]; rfl, hF.same s04, hB, hL, hT4.same s04, tup_same s04 hdd, hT.same s04, hW, hgi, ok i _ hgi, fun H5 s5 => ⟨_, s5 _ _ w4, by rw [List.length_map, List.length_replicate]; exact small1000 (by omega), Same.own (q := D) (s4.trans s5) (mut_keep rfl) nD, ?_⟩⟩)⟩
      rw [upd_same, List.replicate_succ', List.map_append]
      rfl
    · rintro H4 ⟨s4, w4⟩
      refine ⟨D, _, rfl, SqL.of w4, ?_⟩
      rw [show (List.replicate (xs.length : Int).toNat true).all id = true from List.all_eq_true.mpr fun b hb => List.eq_of_mem_replicate hb]
      exact q H4 (s03.trans s4)

-- SPLIT
/-! ### both plans asked for -/
theorem names_nodup {gs : List Row} (nd : (bares gs).Nodup) (h : ∀ x y z, (x, y) ∈ bares gs → (x, z) ∈ bares gs → y = z) : (gs.map (·.1)).Nodup := by
  refine List.pairwise_map.mpr (List.Pairwise.imp_of_mem (fun {a b} ha hb ne e => ne ?_) (List.pairwise_map.mp nd))
  have h1 : (a.1, a.2.1) ∈ bares gs := List.mem_map.mpr ⟨a, ha, rfl⟩
  have h2 : (a.1, b.2.1) ∈ bares gs := List.mem_map.mpr ⟨b, hb, by unfold bare; rw [e]⟩
  exact Prod.ext e (h _ _ _ h1 h2)
theorem Held.names {us : List (Str × UF)} {s : SF} {n : Str} {gs : List Row} (h : Held us s n gs) : (gs.map (·.1)).Nodup := by
  refine names_nodup h.nd fun x y z h1 h2 => ?_
  rcases (h.wd _ h1).2 with e1 | e1 <;> rcases (h.wd _ h2).2 with e2 | e2 <;> dsimp only at e1 e2 <;> subst e1 <;> subst e2
  · rfl
  · exact absurd h2 (h.noc x h1)
  · exact absurd h1 (h.noc x h2)
  · rfl
theorem Held.rows {us : List (Str × UF)} {s : SF} {n : Str} {gs : List Row} (h : Held us s n gs) (i : Nat) (g : Row) (hg : gs[i]? = some g) : RowOk us s gs i g := by
  refine ⟨fun e => ?_, fun hi => h.why i g hi hg⟩
  subst e
  rw [h.first] at hg
  cases hg
  rfl
theorem Grown.names {us : List (Str × UF)} {w : Str} {c : Int} {gs : List Row} (G : Grown us [] (w, offS, c) gs) : (gs.map (·.1)).Nodup := by
  refine names_nodup G.nd fun x y z h1 h2 => ?_
  have e1 := reach_off (G.reach.mp h1)
  have e2 := reach_off (G.reach.mp h2)
  exact e1.trans e2.symm
theorem Grown.rowsOk {us : List (Str × UF)} {s : SF} {w : Str} {gs : List Row} (G : Grown us [] (w, offS, -1) gs) (i : Nat) (g : Row) (hg : gs[i]? = some g) : RowOk us s gs i g := by
  refine ⟨fun e => ?_, fun hi => ?_⟩
  · subst e
    obtain ⟨ext, rfl⟩ := G.head
    cases hg
    rfl
  · obtain ⟨j, c, _, lt, e, hc, ha⟩ := G.caused i g hi hg
    exact ⟨j, c, lt, e, hc, .inl ha⟩
theorem shaped_e : SeqAt.shaped (.tuple []) = true := by decide +kernel
def sp_law_asked (K : PySem.W.Frag) : Sp := fun vs H Q _ => ∃ (d p t : Addr) (w : Str) (us : List (Str × UF)) (s : SF), vs = [.ref d, .ref p, .ref t, .str w] ∧ LF K H d us ∧ NBr us ∧ ShelfAt K H p us ∧ Sh us ∧ FourAt K H t s ∧ Fits us s ∧ w ∈ us.map (·.1) ∧
  ∀ H', Same H H' → Q (.bl true) H'
theorem ok_law_asked (T : Txt K mg) : FnOk P w K mg base CX0 11 (He.fAd K ("_law_asked", none)) T.d_law_asked ["_law_facts_here", "_law_own_shelf", "_law_four", "_law_word"] (sp_law_asked K) := by
  refine T.F_law_asked.ok sc_law_asked (fun vs H Q E h => ?_) (fun cdv A outer s H vs Q E hr h => ?_)
  · obtain ⟨d, p, t, w, us, s, rfl, _⟩ := h
    rfl
  · obtain ⟨d, p, t, w, us, s, rfl, hF, hB, hS, G, h4, F, hw, q⟩ := h
    refine ⟨_, PSs.nox (pss_cons (ps_set (i := 4) sc_law_asked.nd rfl (Or.inl rfl) (pe_call (ok_law_stand T) (hr.mono (by decide)) (by rfl) T.m_law_stand T.F_law_stand.kp T.b_law_stand .nil pass0 (pa_cons (pv 2) pa_nil)))
      (pss_cons (ps_set (i := 5) sc_law_asked.nd rfl (Or.inl rfl) (pe_call (ok_plan_off T) (hr.mono (by decide)) (by rfl) T.m_plan_off T.F_plan_off.kp T.b_plan_off .nil pass0 (pa_cons (pv 1) (pa_cons (pv 4) (pa_cons (pv 3) pa_nil)))))
      (pss_cons (ps_if (pt_mid (PW.pt (pw_or (pt_cmpR (op_neD hr.units) (pe_fld (pv 5) rfl) (pe_tup pa_nil) (nomark _)) (pw_or1 (pt_not (pt_val (pe_call (ok_law_right T) (hr.mono (by decide)) (by rfl) T.m_law_right T.F_law_right.kp T.b_law_right .nil pass0 (pa_cons (pv 0) (pa_cons (pv 2) (pa_cons (pv 5) (pa_cons (pv 3) (pa_cons pe_str pa_nil))))))))))))
      (pss_one (ps_ret pe_bl))
      pss_nil)
      (pss_cons (L2N.ps_try_many rfl rfl UX.takes0
      (fun W pn xe tk own => (pss_one (ps_set (i := 6) sc_law_asked.nd rfl (Or.inl rfl) (pe_callNX (W := W) (ok_plan_on T) (hr.mono (by decide)) (by rfl) T.m_plan_on T.F_plan_on.kp T.kb_plan_on_0_stand_name_shelf.choose_spec (L2N.passAt tk) (pk_cons (pv 4) (pk_cons (pv 3) (pk_cons (pv 1) pk_nil)))))))
      (.cons ⟨by rfl, by decide, .inl T.m_UnitError⟩ (fun a oe cls d pn hz hf => (pss_one (ps_ret pe_bl))) .nil))
      (pss_one (ps_ret (pe_mid (pe_and (pe_callB (id := "isinstance")  call_isi (by rfl) T.n_isinstance (by decide +kernel) (pa_cons (pe_fld (pv 6) rfl) (pa_cons (pe_bltn (v := .ty "tuple") (u := .type "tuple") (by rfl) T.n_tuple (by decide +kernel) rfl) pa_nil))) (pe_one (pe_call (ok_law_right T) (hr.mono (by decide)) (by rfl) T.m_law_right T.F_law_right.kp T.b_law_right .nil pass0 (pa_cons (pv 0) (pa_cons (pv 2) (pa_cons (pv 6) (pa_cons (pv 3) (pa_cons pe_str pa_nil))))))))))))))), ?_⟩
    have hN := G.nms
    refine ⟨_, rfl, t, s, rfl, h4, fun st H1 nst s1 hst => ?_⟩
    refine ⟨_, rfl, _, rfl, _, rfl, p, st, w, us, rfl, hS.same s1, hN, G.few, hw, fun pl o gs H2 npl s2 hP ho Gr => ?_⟩
    have s02 := s1.trans s2
    have few : ∀ gs : List Row, (bares gs).Nodup → (∀ d ∈ bares gs, WD us d) → gs.length ≤ 40 := fun gs h1 h2 => by
      have := wd_few hN h1 h2
      rw [List.length_map] at this
      omega
    obtain ⟨dx, dd, xs, hp0, hdd, hT⟩ := id hP
    refine ⟨fun b H' => b = false ∧ Same H2 H', ?_, ?_⟩
    · refine ⟨_, rfl, pl, _, dx, _, _, rfl, hp0, T.cl_Plan, T.na_Plan_dropped, rfl, by show 0 ≤ sizeLine; decide, fun t3 n3 => ?_⟩
      generalize hE3 : upd H2 t3 _ = H3
      have w3 := new_at hE3
      have s3 := new_same hE3 n3
      have s03 := s02.trans s3
      refine neD_alike (.tup (tup_same s3 ho) .nil) (.tup (SqT.of w3) .nil) shaped_e ⟨_, rfl, iteF ?_⟩
      refine ⟨_, rfl, _, rfl, _, rfl, _, rfl, d, t, pl, o, w, offS, us, s, gs, rfl, hF.same s03, hB, G.likes, h4.same s03, hP.same s3, Gr.wd, Gr.names, few _ Gr.nd Gr.wd, ?_, Gr.rowsOk, fun H4 s4 => ⟨true, rfl, rfl, s3.trans s4⟩⟩
      obtain ⟨ext, rfl⟩ := Gr.head
      rfl
    rintro b H3 ⟨rfl, s3⟩
    refine iteF ?_
    have s03 := s02.trans s3
    -- the other
    refine ⟨_, rfl, _, rfl, _, rfl, rfl, p, st, w, us, s, rfl, hS.same s03, G, hst.same (s2.trans s3), F, hw, fun pl o gs os H4 npl s4 hP ho hH => ?_, fun e fs H4 ne we s4 => ?_, fun e fs H4 ne we s4 => ?_, fun e fs H4 ne we s4 => ?_⟩
    · have s04 := s03.trans s4
      obtain ⟨dx, dd, xs, hp0, hdd, hT⟩ := id hP
      refine ⟨fun v H' => v = .bl true ∧ Same H4 H', ?_, ?_⟩
      · refine ⟨_, rfl, pl, _, dx, _, _, rfl, hp0, T.cl_Plan, T.na_Plan_dropped, rfl, _, _, _, _, true, rfl, .ty "tuple", tyT ho, kit_ty (by decide +kernel), true, rfl, iteT ?_⟩
        exact ⟨_, rfl, _, rfl, _, rfl, _, rfl, d, t, pl, o, w, onS, us, s, gs, rfl, hF.same s04, hB, G.likes, h4.same s04, hP, hH.wd, hH.names, few _ hH.nd hH.wd, hH.first, hH.rows, fun H5 s5 => ⟨rfl, s5⟩⟩
      · rintro v H5 ⟨rfl, s5⟩
        exact q H5 (s04.trans s5)
    · exact ⟨true, T.em_Lack_UnitError, fun _ x nx => q H4 (s03.trans s4), fun z => nomatch z⟩
    · exact ⟨true, T.em_Clash_UnitError, fun _ x nx => q H4 (s03.trans s4), fun z => nomatch z⟩
    · exact ⟨true, T.em_Knot_UnitError, fun _ x nx => q H4 (s03.trans s4), fun z => nomatch z⟩

-- SPLIT
/-- what tuple(..) of a list or a tuple comes to -/
abbrev rTupS (K : PySem.W.Frag) : List V → Hp → VK → Prop := fun xs H Q => ∃ p ys, xs = [.ref p] ∧ ((SqL K H p ys ∧ ∀ l, H l = none → Q (.ref l) (upd H l (.tup ys))) ∨ (SqT K H p ys ∧ Q (.ref p) H))
/-- what sorted(..) of a tuple of texts comes to -/
def rSortTS (K : PySem.W.Frag) : List V → Hp → VK → Prop := fun vs H Q => ∃ (a : Addr) (xs : List Str), vs = [.ref a] ∧ SqT K H a (xs.map V.str) ∧ xs.length < 64 ∧
  ∀ p, H p = none → Q (.ref p) (upd H p (.lst ((srt xs).map V.str)))
open PySem.Spec PyProof.Rows in
theorem cr_sortTS {X : Cx} : CallR X (.builtin "sorted") (rSortTS X.K) := fun pins s σ H vs us Q I r h => by
  obtain ⟨a, xs, rfl, tx, few, q⟩ := h
  cases Vals.ref1 r
  obtain ⟨its, rv, ⟨o, ho, hc, n, hd⟩, hz⟩ := I.tuple tx
  have ln : xs.length = its.length := by
    have := rv.length
    rwa [List.length_map] at this
  have room : its.length ≤ sizeLine := small64 (by omega)
  refine Calls.call_function_entry PyProof.Rows.kind_sorted PyProof.Rows.plain_sorted PyProof.Rows.entry_sorted (PyProof.Rows.args_sorted1 _) ?_
  unfold Builtin.«sorted»
  refine wpAny_bind (m := checkCount "sorted" 1 1 _) (wpAny_pure (wpAny_bind (wpAny_collect_seq (A := X.A.in1) a (.inr rfl) ho hc hd (fun hp old => ?_) (by rw [List.size_toArray]; exact room))))
  have I1 : L2.Inv X pins σ H { s with heap := hp } := I.kept old
  refine wpAny_bind (wpAny_newList ?_ (by simpa using room))
  have put : (hp.push (seqObj "list" its.toArray 0)).get? hp.objs.size = some (seqObj "list" its.toArray 0) := Heap.get?_push_size _ rfl
  refine wpAny_bind (wpAny_holding (wpAny_call_entry PyProof.Rows.slot_list_sort ⟨_, put, rfl⟩ PyProof.Rows.entry_list_sort
    (PyProof.Rows.list_sort_treeK PyProof.Rows.strKind_oneLt put rv.strs.keysOf (fun v₁ v₂ rest e => PyProof.Rows.keyKind_strs (by rw [← e]; exact rv.strs)) (by omega) fun st pm so => ⟨_, rfl, ?_⟩) (PyProof.Rows.args_list_sort _)))
  obtain ⟨ys, as, yp, ys'⟩ := PyProof.Rows.sorted_out_str rv.strs pm so
  cases srt_of yp ys'
  obtain ⟨ep, fin⟩ := PyProof.Rows.sortedHeap_at (vs := its) (out := (PyProof.Rows.arrOf st).map (·.2)) put
  refine wpAny_pure ⟨_, rfl, .ref hp.objs.size, upd H hp.objs.size (.lst ((srt xs).map V.str)), I1.laid (t' := s.toks) (fun b u e => ?_) (Nat.le_refl _) ⟨?_, _, ep, vals_of_strs as, fin⟩, rfl, q _ (I1.hok.fresh (Nat.le_refl _))⟩
  · have lt : b < hp.objs.size := Heap.lt_size e
    rw [PyProof.Rows.sortedHeap_old (Nat.ne_of_lt lt) (by rw [size_push']; exact Nat.lt_succ_of_lt lt)]
    exact Heap.get?_push_of_some _ e
  · rw [List.length_map, srt_len]
    exact small64 few

theorem nb_of {ns ss : List Str} {us : List (Str × UF)} (h : ∀ q ∈ us, UOk ns ss q.1 q.2) : NBr us ∧ ∀ p ∈ us, p.2.needs.length ≤ 100 ∧ p.2.after.length ≤ 100 := by
  refine ⟨fun q hq z => ?_, fun q hq => ⟨Nat.le_trans (h q hq).lN (by decide), Nat.le_trans (h q hq).lA (by decide)⟩⟩
  refine ((h q hq).mem q.1 ?_).2 rfl
  unfold UF.named
  exact List.mem_append_left _ (List.mem_append_left _ (List.mem_append_right _ z))

/-! ### the law -/
theorem sh_of {ns ss : List Str} {us : List (Str × UF)} (hN : Nms us) (hus : us.map (·.1) = ns) (hss : ∀ x ∈ ss, Nm x ∧ x ∉ ns) (h : ∀ q ∈ us, UOk ns ss q.1 q.2) : Sh us := by
  have nm : ∀ x, (x ∈ ns ∨ x ∈ ss) → Nm x := fun x hx => hx.elim (fun z => hN.nm x (by rw [hus]; exact z)) fun z => (hss x z).1
  have hn : ∀ q ∈ us, ∀ x ∈ q.2.needs, x ∈ q.2.named := fun q _ x z => by
    unfold UF.named
    exact List.mem_append_left _ (List.mem_append_left _ (List.mem_append_left _ (List.mem_append_left _ z)))
  refine ⟨hN, fun q hq => ⟨Nat.le_trans (h q hq).lN (by decide), (h q hq).nN⟩, fun q hq x hx => ?_, fun q hq => Nat.le_trans (h q hq).lW (by decide), fun q hq x hx => ?_, waits_self hN.nd fun q hq => ?_⟩
  · exact Nat.le_trans (nm x ((h q hq).mem x (hn q hq x hx)).1).2.2 (by decide)
  · refine (nm x ((h q hq).mem x ?_).1).ok
    unfold UF.named
    exact List.mem_append_left _ (List.mem_append_left _ (List.mem_append_left _ (List.mem_append_right _ hx)))
  · have ok := h q hq
    refine ⟨fun z => (ok.mem q.1 ?_).2 rfl, fun z => (ok.mem q.1 ?_).2 rfl, fun z => (ok.mem q.1 ?_).2 rfl⟩
    · exact hn q hq _ z
    · unfold UF.named
      exact List.mem_append_left _ (List.mem_append_right _ z)
    · unfold UF.named
      rw [z]
      exact List.mem_append_right _ (List.mem_singleton.mpr rfl)
def sp_law (K : PySem.W.Frag) : Sp := fun vs H Q _ => ∃ (a : Addr) (ns : List Int), vs = [.ref a] ∧ SqL K H a (ns.map V.int) ∧ ns.length ≤ 63 ∧ ∀ H', Q (.bl true) H'
theorem ok_law (T : Txt K mg) : FnOk P w K mg base CX0 13 (He.fAd K ("law", none)) T.d_law ["_law_script"] (sp_law K) := by
  refine T.F_law.ok sc_law (fun vs H Q E h => ?_) (fun cdv A outer s H vs Q E hr h => ?_)
  · obtain ⟨a, ns, rfl, _⟩ := h
    rfl
  · obtain ⟨a, ns, rfl, hS, hlen, q⟩ := h
    refine ⟨_, PSs.nox (pss_cons (ps_for PassesOwn.never rfl (pi_range1 (by rfl) T.n_range (pa_cons (pe_callB (id := "max")  (call_max2 rfl) (by rfl) T.n_max (by decide +kernel) (pa_cons pe_int (pa_cons (pe_callB (id := "min")  (call_min2 rfl) (by rfl) T.n_min (by decide +kernel) (pa_cons pe_int (pa_cons (pe_callB (id := "len")  call_len_seq (by rfl) T.n_len (by decide +kernel) (pa_cons (pv 0) pa_nil)) pa_nil))) pa_nil))) pa_nil)) (pg_name (i := 1) sc_law.nd rfl (Or.inl rfl))
      (pss_cons (ps_set (i := 2) sc_law.nd rfl (Or.inl rfl) (pe_call (ok_law_bag T) (hr.mono (by decide)) (by rfl) T.m_law_bag T.F_law_bag.kp T.b_law_bag .nil pass0 (pa_cons (pv 0) (pa_cons (pv 1) pa_nil))))
      (pss_cons (ps_set (i := 3) sc_law.nd rfl (Or.inl rfl) (pe_call (ok_law_facts T) (hr.mono (by decide)) (by rfl) T.m_law_facts T.F_law_facts.kp T.b_law_facts .nil pass0 (pa_cons (pv 2) (pa_cons (pe_ix ix_list (pe_lst (pa_cons pe_int (pa_cons pe_int pa_nil))) (pe_callTy (T := "int")  call_int1 (by rfl) T.n_int (by decide +kernel) (pa_cons (pe_cmpR op_eq (pe_call (ok_law_take T) (hr.mono (by decide)) (by rfl) T.m_law_take T.F_law_take.kp T.b_law_take .nil pass0 (pa_cons (pv 2) (pa_cons pe_int pa_nil))) pe_int (nomark _)) pa_nil)) (fun _ _ => rfl)) pa_nil))))
      (pss_cons (ps_set (i := 4) sc_law.nd rfl (Or.inl rfl) (pe_make T.mk_Shelf (ok_Shelf_init T) (hr.mono (by decide)) (by rfl) T.m_Shelf T.b2_Shelf_init .nil pass0 (pa_cons (pe_call (ok_law_units T) (hr.mono (by decide)) (by rfl) T.m_law_units T.F_law_units.kp T.b_law_units .nil pass0 (pa_cons (pv 3) pa_nil)) pa_nil)))
      (pss_cons (ps_set (i := 5) sc_law.nd rfl (Or.inl rfl) (pe_call (ok_law_stand_drawn T) (hr.mono (by decide)) (by rfl) T.m_law_stand_drawn T.F_law_stand_drawn.kp T.b_law_stand_drawn .nil pass0 (pa_cons (pv 2) (pa_cons (pv 3) pa_nil))))
      (pss_cons (ps_set (i := 6) sc_law.nd rfl (Or.inl rfl) (pe_callB (id := "sorted")  (call_sortedD rfl) (by rfl) T.n_sorted (by decide +kernel) (pa_cons (pv 3) pa_nil)))
      (pss_one (ps_for PassesOwn.never rfl (pi_range1 (by rfl) T.n_range (pa_cons (pe_op op_add pe_int (pe_call (ok_law_take T) (hr.mono (by decide)) (by rfl) T.m_law_take T.F_law_take.kp T.b_law_take .nil pass0 (pa_cons (pv 2) (pa_cons pe_int pa_nil)))) pa_nil)) (pg_name (i := 7) sc_law.nd rfl (Or.inl rfl))
      (pss_one (ps_if (pt_mid (pt_not (pt_val (pe_call (ok_law_asked T) (hr.mono (by decide)) (by rfl) T.m_law_asked T.F_law_asked.kp T.b_law_asked .nil pass0 (pa_cons (pv 3) (pa_cons (pv 4) (pa_cons (pv 5) (pa_cons (pe_ix ix_list (pv 6) (pe_call (ok_law_take T) (hr.mono (by decide)) (by rfl) T.m_law_take T.F_law_take.kp T.b_law_take .nil pass0 (pa_cons (pv 2) (pa_cons (pe_callB (id := "len")  call_len_seq (by rfl) T.n_len (by decide +kernel) (pa_cons (pv 6) pa_nil)) pa_nil))) (fun _ _ => rfl)) pa_nil))))))))
      (pss_one (ps_ret pe_bl))
      pss_nil))))))))))
      (pss_one (ps_ret pe_bl))), ?_⟩
    refine ⟨_, rfl, a, _, rfl, .inl hS, _, _, rfl, _, _, rfl, _, rfl, ?_, ?_, for_range (lo := 0) (fun i σ H' => Same H H' ∧ ∃ y1 y2 y3 y4 y5 y6 y7, σ = [some (.ref a), y1, y2, y3, y4, y5, y6, y7]) ⟨Same.refl H, _, _, _, _, _, _, _, rfl⟩ ?_ ?_⟩
    · split <;> split <;> omega
    · split <;> split <;> omega
    · rintro i σ H1 hi ⟨s1, y1, y2, y3, y4, y5, y6, y7, rfl⟩
      have hi9 : i < 10 := by
        rw [List.length_map] at hi
        revert hi
        split <;> split <;> omega
      have hS1 := s1.seq hS
      -- bag
      refine ⟨_, rfl, _, rfl, a, ns, i, by rw [Int.zero_add]; rfl, hS1, by omega, fun p H2 np s2 B2 => ?_⟩
      have npH : H p = none := s1.free np
      -- facts
      refine ⟨_, rfl, by show 2 ≤ sizeLine; decide, fun l1 n1 => ?_⟩
      generalize hE4 : upd H2 l1 _ = H4
      have wl1 := new_at hE4
      have s4 := new_same hE4 n1
      refine ⟨_, rfl, ?_⟩
      refine take_of (z := 8) (B2.same s4) (by decide) (by decide) (by decide) fun r5 H5 a5 b5 B5 k5 => ?_
      obtain ⟨k, hk, hk0, hk16⟩ : ∃ k : Nat, atI [V.int 12, V.int 16] (if decide (V.int r5 = V.int 0) = true then 1 else 0) = some (.int (k : Int)) ∧ 0 < k ∧ k ≤ 16 := by
        cases decide (V.int r5 = V.int 0)
        · exact ⟨12, at0, by decide, by decide⟩
        · exact ⟨16, at1, by decide, by decide⟩
      have np1 : l1 ≠ p := (B2.ne n1).symm
      refine ⟨rfl, .inr ⟨_, rfl, l1, _, _, _, rfl, rfl, SqL.of (k5 _ _ wl1 np1), hk, ?_⟩⟩
      refine ⟨p, k, _, rfl, B5, by decide, hk0, hk16, fun nms ss us kvs d H6 hus hnd hnm h0 hkl ssn ssm ssl huo hfa nd wd B6 k6 => ?_⟩
      have S6 : Same H H6 := Same.own (s1.trans (s2.trans s4)) (k5.trans k6) npH
      obtain ⟨hNB, hFew⟩ := nb_of huo
      have hul : us.length ≤ 16 := by
        have := congrArg List.length hus
        rw [List.length_map] at this
        omega
      have hN : Nms us := ⟨by rw [hus]; exact hnd, hul, by rw [hus]; exact hnm⟩
      have G : Sh us := sh_of hN hus ssm huo
      have hLF : LF K H6 d us := ⟨⟨kvs, wd, FactsAt.tab hfa⟩, hN, hFew⟩
      have hu0 : 0 < us.length := by
        have := congrArg List.length hus
        rw [List.length_map] at this
        omega
      -- own_shelf
      refine ⟨_, rfl, d, kvs, us, rfl, wd, FactsAt.tab hfa, hN, fun ul xs0 H8 nul s8 wul hU => ?_⟩
      refine fun x dx nx' ndx nex => ?_
      have sn : Same H8 (upd (upd H8 dx (.own x)) x (.ins (He.ga K "Shelf") dx [])) := Same.made nx' ndx fun b o e _ => e
      refine ⟨x, dx, ul, xs0, us, rfl, upd_same, .inl (SqL.of (sn _ _ wul)), hU.same sn, hN, fun H9 hSh kp9 => ⟨rfl, ?_⟩⟩
      have s89 : Same H8 H9 := Same.made nx' ndx fun b o e n => kp9 b o e n
      have s69 := s8.trans s89
      have hF9 := hLF.same s69
      have B9 := B6.same s69
      have S9 : Same H H9 := S6.trans s69
      -- four
      refine ⟨_, rfl, _, rfl, p, d, _, us, rfl, B9, by decide, hF9, hNB, hu0, fun t a1 a2 a3 a4 s H10 B10 k10 hF10 nt wt w1 w2 w3 w4 np1 np2 np3 np4 hfit hun rise => ?_⟩
      have S10 : Same H H10 := Same.own S9 k10 npH
      have hS10 := hSh.keepB k10 B9
      have npt : t ≠ p := fun e => by
        obtain ⟨_, _, _, hq, _⟩ := B10.ex
        rw [e, hq] at wt
        cases wt
      -- words
      obtain ⟨kv, hd, htab⟩ := hF10.ex
      refine ⟨_, rfl, d, kv, us.map (·.1), rfl, .inl hd, htab.keys, by have := hN.len; omega, fun ys0 wl hy hs nwl => ?_⟩
      obtain rfl := srt_of hy hs
      generalize hE7 : upd H10 wl _ = H11
      have w11 := new_at hE7
      have s11 := new_same hE7 nwl
      have npwl : p ≠ wl := B10.ne nwl
      have wsub : ∀ n ∈ srt (us.map (·.1)), n ∈ us.map (·.1) := fun n h => srt_mem.mp h
      have wlen : (srt (us.map (·.1))).length ≤ 16 := by rw [srt_len]; exact hN.len
      have wpos : 0 < (srt (us.map (·.1))).length := by rw [srt_len, List.length_map]; exact hu0
      generalize srt (us.map (·.1)) = ws at w11 wsub wlen wpos
      have B11 := B10.same s11
      have hS11 := hS10.same s11
      have hF11 := hF10.same s11
      have S11 : Same H H11 := S10.trans s11
      -- turns
      refine ⟨_, rfl, take_of (z := 4) B11 (by decide) (by decide) (by omega) fun r8 H12 a8 b8 B12 k12 => ?_⟩
      obtain ⟨_, _, _, hBl, _⟩ := B11.ex
      refine ⟨_, _, rfl, rfl, _, rfl, by omega, by omega, for_range (lo := 0) (fun j σ H' => Bag (10000 + 10 * j) H' p ∧ Kp p H11 H' ∧ ∃ z7, σ = [some (.ref a), some (.int (0 + (i : Int))), some (.ref p), some (.ref d), some (.ref x), some (.ref t), some (.ref wl), z7]) ⟨B12.le (by omega), k12, _, rfl⟩ ?_ ?_⟩
      · rintro j σ H13 hj ⟨B13, k13, z7, rfl⟩
        have hj7 : j < 7 := by omega
        have w13 := k13 _ _ w11 npwl.symm
        refine ⟨fun b H' => b = false ∧ Bag (10000 + 10 * (j + 1)) H' p ∧ Kp p H13 H', ?_, ?_⟩
        · refine ⟨_, rfl, _, rfl, _, rfl, _, rfl, _, rfl, _, rfl, wl, _, rfl, .inl (SqL.of w13), ?_⟩
          rw [List.length_map]
          refine take_of (z := (ws.length : Int)) B13 (by omega) (by omega) (by omega) fun r14 H14 a14 b14 B14 k14 => ?_
          obtain ⟨m, rfl⟩ : ∃ m : Nat, r14 = (m : Int) := ⟨r14.toNat, by omega⟩
          have hm : m < ws.length := by omega
          have hwm : ws[m]? = some ws[m] := List.getElem?_eq_getElem hm
          have k1114 := k13.trans k14
          refine ⟨wl, _, _, .str ws[m], rfl, rfl, SqL.of (k14 _ _ w13 npwl.symm), atI_nat (by rw [List.getElem?_map, hwm]; rfl), ?_⟩
          have four14 : FourAt K H14 t s := ⟨a1, a2, a3, a4, .inr (SqT.of (k1114 _ _ (s11 _ _ wt) npt)), k1114 _ _ (s11 _ _ w1) np1, k1114 _ _ (s11 _ _ w2) np2, k1114 _ _ (s11 _ _ w3) np3, k1114 _ _ (s11 _ _ w4) np4⟩
          refine ⟨d, x, t, ws[m], us, s, rfl, hF11.keepL k1114 hBl, hNB, hS11.keepL k1114 hBl, G, four14, hfit, wsub _ (List.mem_of_getElem? hwm), fun H15 s15 => ⟨true, rfl, rfl, (B14.same s15).le (by omega), k14.same s15⟩⟩
        rintro b H14 ⟨rfl, B14, k14⟩
        exact iteF ⟨B14, k13.trans k14, _, rfl⟩
      · rintro σ H13 ⟨B13, k13, z7, rfl⟩
        exact ⟨Same.own S11 k13 npH, _, _, _, _, _, _, _, rfl⟩
    · rintro σ H1 ⟨s1, y1, y2, y3, y4, y5, y6, y7, rfl⟩
      exact q H1

-- SPLIT
end
theorem kb_Stand_init_1_wished_up_later_back_mk {K : PySem.W.Frag} {f : Addr} {fd : FuncData} (F : FunD K "__init__" "Stand.__init__" (defArgs s_Stand_init) (defBody s_Stand_init) (defScope s_Stand_init) [] [("wished", V.ref (UO.kwAdr K ("Stand", some "__init__") "wished")), ("up", V.ref (UO.kwAdr K ("Stand", some "__init__") "up")), ("later", V.ref (UO.kwAdr K ("Stand", some "__init__") "later")), ("back", V.ref (UO.kwAdr K ("Stand", some "__init__") "back"))] f fd) : ∃ gg, KBn K fd ["self", "wished", "up", "later", "back"] 1 ["wished", "up", "later", "back"] gg (fun us ws => us ++ (ws.drop 0).take 1 ++ (ws.drop 1).take 1 ++ (ws.drop 2).take 1 ++ (ws.drop 3).take 1) := by
  obtain ⟨mv, h⟩ := F.kbinds0 (ps := ["self", "wished", "up", "later", "back"]) 1 ["wished", "up", "later", "back"] [] (fun us mv ws => us ++ (ws.drop 0).take 1 ++ (ws.drop 1).take 1 ++ (ws.drop 2).take 1 ++ (ws.drop 3).take 1) (by intro z; cases z) (by simp) (fun r1 r2 r3 => ((((r1.append (vals_take ((r3).drop 0) 1)).append (vals_take ((r3).drop 1) 1)).append (vals_take ((r3).drop 2) 1)).append (vals_take ((r3).drop 3) 1))) (fun D doc pm an cdv ct us mv ws h1 h2 h3 => match us, mv, ws, h1, h2, h3 with | [_], [], [_, _, _, _], _, _, _ => rfl)
  exact ⟨_, h⟩
theorem kb_Rule_init_1_first_times_top_burst_span_mk {K : PySem.W.Frag} {f : Addr} {fd : FuncData} (F : FunD K "__init__" "Rule.__init__" (defArgs s_Rule_init) (defBody s_Rule_init) (defScope s_Rule_init) [] [("first", V.int 1), ("times", V.int 2), ("top", V.int 64), ("burst", V.int 5), ("span", V.int 100)] f fd) : ∃ gg, KBn K fd ["self", "first", "times", "top", "burst", "span"] 1 ["first", "times", "top", "burst", "span"] gg (fun us ws => us ++ (ws.drop 0).take 1 ++ (ws.drop 1).take 1 ++ (ws.drop 2).take 1 ++ (ws.drop 3).take 1 ++ (ws.drop 4).take 1) := by
  obtain ⟨mv, h⟩ := F.kbinds0 (ps := ["self", "first", "times", "top", "burst", "span"]) 1 ["first", "times", "top", "burst", "span"] [] (fun us mv ws => us ++ (ws.drop 0).take 1 ++ (ws.drop 1).take 1 ++ (ws.drop 2).take 1 ++ (ws.drop 3).take 1 ++ (ws.drop 4).take 1) (by intro z; cases z) (by simp) (fun r1 r2 r3 => (((((r1.append (vals_take ((r3).drop 0) 1)).append (vals_take ((r3).drop 1) 1)).append (vals_take ((r3).drop 2) 1)).append (vals_take ((r3).drop 3) 1)).append (vals_take ((r3).drop 4) 1))) (fun D doc pm an cdv ct us mv ws h1 h2 h3 => match us, mv, ws, h1, h2, h3 with | [_], [], [_, _, _, _, _], _, _, _ => rfl)
  exact ⟨_, h⟩
theorem kb_Unit_init_2_kind_needs_wants_bars_after_opens_rule_mk {K : PySem.W.Frag} {f : Addr} {fd : FuncData} (F : FunD K "__init__" "Unit.__init__" (defArgs s_Unit_init) (defBody s_Unit_init) (defScope s_Unit_init) [] [("kind", V.str "work"), ("needs", V.ref (UO.kwAdr K ("Unit", some "__init__") "needs")), ("wants", V.ref (UO.kwAdr K ("Unit", some "__init__") "wants")), ("bars", V.ref (UO.kwAdr K ("Unit", some "__init__") "bars")), ("after", V.ref (UO.kwAdr K ("Unit", some "__init__") "after")), ("opens", V.non), ("rule", V.non)] f fd) : ∃ gg, KBn K fd ["self", "name", "kind", "needs", "wants", "bars", "after", "opens", "rule"] 2 ["kind", "needs", "wants", "bars", "after", "opens", "rule"] gg (fun us ws => us ++ (ws.drop 0).take 1 ++ (ws.drop 1).take 1 ++ (ws.drop 2).take 1 ++ (ws.drop 3).take 1 ++ (ws.drop 4).take 1 ++ (ws.drop 5).take 1 ++ (ws.drop 6).take 1) := by
  obtain ⟨mv, h⟩ := F.kbinds0 (ps := ["self", "name", "kind", "needs", "wants", "bars", "after", "opens", "rule"]) 2 ["kind", "needs", "wants", "bars", "after", "opens", "rule"] [] (fun us mv ws => us ++ (ws.drop 0).take 1 ++ (ws.drop 1).take 1 ++ (ws.drop 2).take 1 ++ (ws.drop 3).take 1 ++ (ws.drop 4).take 1 ++ (ws.drop 5).take 1 ++ (ws.drop 6).take 1) (by intro z; cases z) (by simp) (fun r1 r2 r3 => (((((((r1.append (vals_take ((r3).drop 0) 1)).append (vals_take ((r3).drop 1) 1)).append (vals_take ((r3).drop 2) 1)).append (vals_take ((r3).drop 3) 1)).append (vals_take ((r3).drop 4) 1)).append (vals_take ((r3).drop 5) 1)).append (vals_take ((r3).drop 6) 1))) (fun D doc pm an cdv ct us mv ws h1 h2 h3 => match us, mv, ws, h1, h2, h3 with | [_, _], [], [_, _, _, _, _, _, _], _, _, _ => rfl)
  exact ⟨_, h⟩
theorem kb_plan_on_0_stand_name_shelf_mk {K : PySem.W.Frag} {f : Addr} {fd : FuncData} (F : FunD K "plan_on" "plan_on" (defArgs s_plan_on) (defBody s_plan_on) (defScope s_plan_on) [] [] f fd) : ∃ gg, KBn K fd ["shelf", "stand", "name"] 0 ["stand", "name", "shelf"] gg (fun us ws => us ++ (ws.drop 2).take 1 ++ (ws.drop 0).take 1 ++ (ws.drop 1).take 1) := by
  obtain ⟨oc, od, dV, kV, doc, pm, an, cdv, ct, osl, rfl, lk, hcd, hD, hK⟩ := F.ex
  rcases hD with ⟨_, rfl⟩ | ⟨e, _⟩
  · refine ⟨fun us ws => us ++ (ws.drop 2).take 1 ++ (ws.drop 0).take 1 ++ (ws.drop 1).take 1, ⟨fun s us ws X l1 l2 => ?_, fun r1 r3 => (((r1.append (vals_take ((r3).drop 2) 1)).append (vals_take ((r3).drop 0) 1)).append (vals_take ((r3).drop 1) 1))⟩⟩
    match us, ws, l1, l2 with | [], [_, _, _], _, _ => exact .of_eq rfl
  · exact absurd rfl e
def dd_Lack_init : He.DefD := ⟨("Lack", some "__init__"), "__init__", "Lack.__init__", defArgs s_Lack_init, defBody s_Lack_init, defScope s_Lack_init, [], []⟩
def dd_Clash_init : He.DefD := ⟨("Clash", some "__init__"), "__init__", "Clash.__init__", defArgs s_Clash_init, defBody s_Clash_init, defScope s_Clash_init, [], []⟩
def dd_Knot_init : He.DefD := ⟨("Knot", some "__init__"), "__init__", "Knot.__init__", defArgs s_Knot_init, defBody s_Knot_init, defScope s_Knot_init, [], []⟩
def dd_at_once : He.DefD := ⟨("at_once", none), "at_once", "at_once", defArgs s_at_once, defBody s_at_once, defScope s_at_once, [], []⟩
def dd_causes : He.DefD := ⟨("causes", none), "causes", "causes", defArgs s_causes, defBody s_causes, defScope s_causes, [], []⟩
def dd_chain_to : He.DefD := ⟨("chain_to", none), "chain_to", "chain_to", defArgs s_chain_to, defBody s_chain_to, defScope s_chain_to, [], []⟩
def dd_followed : He.DefD := ⟨("followed", none), "followed", "followed", defArgs s_followed, defBody s_followed, defScope s_followed, [], []⟩
def dd_clash_in : He.DefD := ⟨("clash_in", none), "clash_in", "clash_in", defArgs s_clash_in, defBody s_clash_in, defScope s_clash_in, [], []⟩
def dd_next_in : He.DefD := ⟨("next_in", none), "next_in", "next_in", defArgs s_next_in, defBody s_next_in, defScope s_next_in, [], []⟩
def dd_free_order : He.DefD := ⟨("free_order", none), "free_order", "free_order", defArgs s_free_order, defBody s_free_order, defScope s_free_order, [], []⟩
def dd_ring_in : He.DefD := ⟨("ring_in", none), "ring_in", "ring_in", defArgs s_ring_in, defBody s_ring_in, defScope s_ring_in, [], []⟩
def dd_knot_in : He.DefD := ⟨("knot_in", none), "knot_in", "knot_in", defArgs s_knot_in, defBody s_knot_in, defScope s_knot_in, [], []⟩
def dd_Stand_init : He.DefD := ⟨("Stand", some "__init__"), "__init__", "Stand.__init__", defArgs s_Stand_init, defBody s_Stand_init, defScope s_Stand_init, [], [("wished", .adr (fun K => UO.kwAdr K ("Stand", some "__init__") "wished")), ("up", .adr (fun K => UO.kwAdr K ("Stand", some "__init__") "up")), ("later", .adr (fun K => UO.kwAdr K ("Stand", some "__init__") "later")), ("back", .adr (fun K => UO.kwAdr K ("Stand", some "__init__") "back"))]⟩
def dd_open_in : He.DefD := ⟨("open_in", none), "open_in", "open_in", defArgs s_open_in, defBody s_open_in, defScope s_open_in, [], []⟩
def dd_wants_of : He.DefD := ⟨("wants_of", none), "wants_of", "wants_of", defArgs s_wants_of, defBody s_wants_of, defScope s_wants_of, [], []⟩
def dd_knot_comes : He.DefD := ⟨("knot_comes", none), "knot_comes", "knot_comes", defArgs s_knot_comes, defBody s_knot_comes, defScope s_knot_comes, [], []⟩
def dd_words_of : He.DefD := ⟨("words_of", none), "words_of", "words_of", defArgs s_words_of, defBody s_words_of, defScope s_words_of, [], []⟩
def dd_Plan_init : He.DefD := ⟨("Plan", some "__init__"), "__init__", "Plan.__init__", defArgs s_Plan_init, defBody s_Plan_init, defScope s_Plan_init, [.adr (He.dflAt ("Plan", some "__init__") 0)], []⟩
def dd_Plan_len : He.DefD := ⟨("Plan", some "__len__"), "__len__", "Plan.__len__", defArgs s_Plan_len, defBody s_Plan_len, defScope s_Plan_len, [], []⟩
def dd_behind : He.DefD := ⟨("behind", none), "behind", "behind", defArgs s_behind, defBody s_behind, defScope s_behind, [], []⟩
def dd_without_causes : He.DefD := ⟨("without_causes", none), "without_causes", "without_causes", defArgs s_without_causes, defBody s_without_causes, defScope s_without_causes, [], []⟩
def dd_spread : He.DefD := ⟨("spread", none), "spread", "spread", defArgs s_spread, defBody s_spread, defScope s_spread, [], []⟩
def dd_core_on : He.DefD := ⟨("core_on", none), "core_on", "core_on", defArgs s_core_on, defBody s_core_on, defScope s_core_on, [], []⟩
def dd_open_behind : He.DefD := ⟨("open_behind", none), "open_behind", "open_behind", defArgs s_open_behind, defBody s_open_behind, defScope s_open_behind, [], []⟩
def dd_next_want : He.DefD := ⟨("next_want", none), "next_want", "next_want", defArgs s_next_want, defBody s_next_want, defScope s_next_want, [], []⟩
def dd_with_wants : He.DefD := ⟨("with_wants", none), "with_wants", "with_wants", defArgs s_with_wants, defBody s_with_wants, defScope s_with_wants, [], []⟩
def dd_plan_on : He.DefD := ⟨("plan_on", none), "plan_on", "plan_on", defArgs s_plan_on, defBody s_plan_on, defScope s_plan_on, [], []⟩
def dd_plan_off : He.DefD := ⟨("plan_off", none), "plan_off", "plan_off", defArgs s_plan_off, defBody s_plan_off, defScope s_plan_off, [], []⟩
def dd_Rule_init : He.DefD := ⟨("Rule", some "__init__"), "__init__", "Rule.__init__", defArgs s_Rule_init, defBody s_Rule_init, defScope s_Rule_init, [], [("first", .int 1), ("times", .int 2), ("top", .int 64), ("burst", .int 5), ("span", .int 100)]⟩
def dd_Shelf_init : He.DefD := ⟨("Shelf", some "__init__"), "__init__", "Shelf.__init__", defArgs s_Shelf_init, defBody s_Shelf_init, defScope s_Shelf_init, [.adr (He.dflAt ("Shelf", some "__init__") 0)], []⟩
def dd_Shelf_names : He.DefD := ⟨("Shelf", some "names"), "names", "Shelf.names", defArgs s_Shelf_names, defBody s_Shelf_names, defScope s_Shelf_names, [], []⟩
def dd_Shelf_has : He.DefD := ⟨("Shelf", some "has"), "has", "Shelf.has", defArgs s_Shelf_has, defBody s_Shelf_has, defScope s_Shelf_has, [], []⟩
def dd_Shelf_unit : He.DefD := ⟨("Shelf", some "unit"), "unit", "Shelf.unit", defArgs s_Shelf_unit, defBody s_Shelf_unit, defScope s_Shelf_unit, [], []⟩
def dd_Shelf_needing : He.DefD := ⟨("Shelf", some "needing"), "needing", "Shelf.needing", defArgs s_Shelf_needing, defBody s_Shelf_needing, defScope s_Shelf_needing, [], []⟩
def dd_Shelf_barred : He.DefD := ⟨("Shelf", some "barred"), "barred", "Shelf.barred", defArgs s_Shelf_barred, defBody s_Shelf_barred, defScope s_Shelf_barred, [], []⟩
def dd_Shelf_waited : He.DefD := ⟨("Shelf", some "waited"), "waited", "Shelf.waited", defArgs s_Shelf_waited, defBody s_Shelf_waited, defScope s_Shelf_waited, [], []⟩
def dd_Unit_init : He.DefD := ⟨("Unit", some "__init__"), "__init__", "Unit.__init__", defArgs s_Unit_init, defBody s_Unit_init, defScope s_Unit_init, [], [("kind", .str "work"), ("needs", .adr (fun K => UO.kwAdr K ("Unit", some "__init__") "needs")), ("wants", .adr (fun K => UO.kwAdr K ("Unit", some "__init__") "wants")), ("bars", .adr (fun K => UO.kwAdr K ("Unit", some "__init__") "bars")), ("after", .adr (fun K => UO.kwAdr K ("Unit", some "__init__") "after")), ("opens", .non), ("rule", .non)]⟩
def dd_law_bag : He.DefD := ⟨("_law_bag", none), "_law_bag", "_law_bag", defArgs s_law_bag, defBody s_law_bag, defScope s_law_bag, [], []⟩
def dd_law_take : He.DefD := ⟨("_law_take", none), "_law_take", "_law_take", defArgs s_law_take, defBody s_law_take, defScope s_law_take, [], []⟩
def dd_law_name : He.DefD := ⟨("_law_name", none), "_law_name", "_law_name", defArgs s_law_name, defBody s_law_name, defScope s_law_name, [], []⟩
def dd_law_names : He.DefD := ⟨("_law_names", none), "_law_names", "_law_names", defArgs s_law_names, defBody s_law_names, defScope s_law_names, [], []⟩
def dd_law_rule_parts : He.DefD := ⟨("_law_rule_parts", none), "_law_rule_parts", "_law_rule_parts", defArgs s_law_rule_parts, defBody s_law_rule_parts, defScope s_law_rule_parts, [], []⟩
def dd_law_rule : He.DefD := ⟨("_law_rule", none), "_law_rule", "_law_rule", defArgs s_law_rule, defBody s_law_rule, defScope s_law_rule, [], []⟩
def dd_law_some : He.DefD := ⟨("_law_some", none), "_law_some", "_law_some", defArgs s_law_some, defBody s_law_some, defScope s_law_some, [], []⟩
def dd_law_facts : He.DefD := ⟨("_law_facts", none), "_law_facts", "_law_facts", defArgs s_law_facts, defBody s_law_facts, defScope s_law_facts, [], []⟩
def dd_law_unit : He.DefD := ⟨("_law_unit", none), "_law_unit", "_law_unit", defArgs s_law_unit, defBody s_law_unit, defScope s_law_unit, [], []⟩
def dd_law_units : He.DefD := ⟨("_law_units", none), "_law_units", "_law_units", defArgs s_law_units, defBody s_law_units, defScope s_law_units, [], []⟩
def dd_law_needing : He.DefD := ⟨("_law_needing", none), "_law_needing", "_law_needing", defArgs s_law_needing, defBody s_law_needing, defScope s_law_needing, [], []⟩
def dd_law_barred : He.DefD := ⟨("_law_barred", none), "_law_barred", "_law_barred", defArgs s_law_barred, defBody s_law_barred, defScope s_law_barred, [], []⟩
def dd_law_waited : He.DefD := ⟨("_law_waited", none), "_law_waited", "_law_waited", defArgs s_law_waited, defBody s_law_waited, defScope s_law_waited, [], []⟩
def dd_law_next : He.DefD := ⟨("_law_next", none), "_law_next", "_law_next", defArgs s_law_next, defBody s_law_next, defScope s_law_next, [], []⟩
def dd_law_followed : He.DefD := ⟨("_law_followed", none), "_law_followed", "_law_followed", defArgs s_law_followed, defBody s_law_followed, defScope s_law_followed, [], []⟩
def dd_law_lacks : He.DefD := ⟨("_law_lacks", none), "_law_lacks", "_law_lacks", defArgs s_law_lacks, defBody s_law_lacks, defScope s_law_lacks, [], []⟩
def dd_law_clash : He.DefD := ⟨("_law_clash", none), "_law_clash", "_law_clash", defArgs s_law_clash, defBody s_law_clash, defScope s_law_clash, [], []⟩
def dd_law_knotted : He.DefD := ⟨("_law_knotted", none), "_law_knotted", "_law_knotted", defArgs s_law_knotted, defBody s_law_knotted, defScope s_law_knotted, [], []⟩
def dd_law_ways : He.DefD := ⟨("_law_ways", none), "_law_ways", "_law_ways", defArgs s_law_ways, defBody s_law_ways, defScope s_law_ways, [], []⟩
def dd_law_stand_drawn : He.DefD := ⟨("_law_stand_drawn", none), "_law_stand_drawn", "_law_stand_drawn", defArgs s_law_stand_drawn, defBody s_law_stand_drawn, defScope s_law_stand_drawn, [], []⟩
def dd_law_stand : He.DefD := ⟨("_law_stand", none), "_law_stand", "_law_stand", defArgs s_law_stand, defBody s_law_stand, defScope s_law_stand, [], []⟩
def dd_law_wants : He.DefD := ⟨("_law_wants", none), "_law_wants", "_law_wants", defArgs s_law_wants, defBody s_law_wants, defScope s_law_wants, [], []⟩
def dd_law_whole : He.DefD := ⟨("_law_whole", none), "_law_whole", "_law_whole", defArgs s_law_whole, defBody s_law_whole, defScope s_law_whole, [], []⟩
def dd_law_caused : He.DefD := ⟨("_law_caused", none), "_law_caused", "_law_caused", defArgs s_law_caused, defBody s_law_caused, defScope s_law_caused, [], []⟩
def dd_law_right : He.DefD := ⟨("_law_right", none), "_law_right", "_law_right", defArgs s_law_right, defBody s_law_right, defScope s_law_right, [], []⟩
def dd_law_asked : He.DefD := ⟨("_law_asked", none), "_law_asked", "_law_asked", defArgs s_law_asked, defBody s_law_asked, defScope s_law_asked, [], []⟩
def dd_law : He.DefD := ⟨("law", none), "law", "law", defArgs s_law, defBody s_law, defScope s_law, [], []⟩
def fn : List He.DefD := [dd_Lack_init, dd_Clash_init, dd_Knot_init, dd_at_once, dd_causes, dd_chain_to, dd_followed, dd_clash_in, dd_next_in, dd_free_order, dd_ring_in, dd_knot_in, dd_Stand_init, dd_open_in, dd_wants_of, dd_knot_comes, dd_words_of, dd_Plan_init, dd_Plan_len, dd_behind, dd_without_causes, dd_spread, dd_core_on, dd_open_behind, dd_next_want, dd_with_wants, dd_plan_on, dd_plan_off, dd_Rule_init, dd_Shelf_init, dd_Shelf_names, dd_Shelf_has, dd_Shelf_unit, dd_Shelf_needing, dd_Shelf_barred, dd_Shelf_waited, dd_Unit_init, dd_law_bag, dd_law_take, dd_law_name, dd_law_names, dd_law_rule_parts, dd_law_rule, dd_law_some, dd_law_facts, dd_law_unit, dd_law_units, dd_law_needing, dd_law_barred, dd_law_waited, dd_law_next, dd_law_followed, dd_law_lacks, dd_law_clash, dd_law_knotted, dd_law_ways, dd_law_stand_drawn, dd_law_stand, dd_law_wants, dd_law_whole, dd_law_caused, dd_law_right, dd_law_asked, dd_law]
def fa : List He.Fa := [.glo "at_once", .glo "causes", .glo "chain_to", .glo "followed", .glo "clash_in", .glo "next_in", .glo "free_order", .glo "ring_in", .glo "knot_in", .glo "open_in", .glo "wants_of", .glo "knot_comes", .glo "words_of", .meth "Plan" "__len__", .glo "behind", .glo "without_causes", .glo "spread", .glo "core_on", .glo "open_behind", .glo "next_want", .glo "with_wants", .glo "plan_on", .glo "plan_off", .meth "Shelf" "names", .meth "Shelf" "has", .meth "Shelf" "unit", .meth "Shelf" "needing", .meth "Shelf" "barred", .meth "Shelf" "waited", .glo "_law_bag", .glo "_law_take", .glo "_law_name", .glo "_law_names", .glo "_law_rule_parts", .glo "_law_rule", .glo "_law_some", .glo "_law_facts", .glo "_law_unit", .glo "_law_units", .glo "_law_needing", .glo "_law_barred", .glo "_law_waited", .glo "_law_next", .glo "_law_followed", .glo "_law_lacks", .glo "_law_clash", .glo "_law_knotted", .glo "_law_ways", .glo "_law_stand_drawn", .glo "_law_stand", .glo "_law_wants", .glo "_law_whole", .glo "_law_caused", .glo "_law_right", .glo "_law_asked", .glo "law", .glo "Stand", .cls "Stand", .mkr "Stand", .noat "Stand" "wished", .noat "Stand" "up", .noat "Stand" "later", .noat "Stand" "back", .glo "Plan", .cls "Plan", .mkr "Plan", .noat "Plan" "name", .noat "Plan" "way", .noat "Plan" "demands", .noat "Plan" "dropped", .glo "Rule", .cls "Rule", .mkr "Rule", .noat "Rule" "first", .noat "Rule" "times", .noat "Rule" "top", .noat "Rule" "burst", .noat "Rule" "span", .glo "Shelf", .cls "Shelf", .mkr "Shelf", .noat "Shelf" "by_name", .glo "Unit", .cls "Unit", .mkr "Unit", .noat "Unit" "name", .noat "Unit" "kind", .noat "Unit" "needs", .noat "Unit" "wants", .noat "Unit" "bars", .noat "Unit" "after", .noat "Unit" "opens", .noat "Unit" "rule", .glo "Lack", .glo "Clash", .glo "Knot", .glo "NoUnit", .glo "NoShelf", .glo "UnitError", .int "MOST" 16, .free "list", .free "sorted", .free "len", .free "min", .free "all", .free "any", .free "tuple", .free "set", .free "isinstance", .free "str", .free "abs", .free "int", .free "range", .free "bool", .free "max"]
abbrev R : PySem.W.OpenRow := PySem.W.OpenLaw.row PySem.Challenge.rw_unitwants_k29_causes
def exB (K : PySem.W.Frag) : Bool := UO.insB "Unit" K && UO.insB "Rule" K && UO.insB "Stand" K && UO.tup0B K (UO.kwAdr K ("Stand", some "__init__") "wished") && UO.tup0B K (UO.kwAdr K ("Stand", some "__init__") "up") && UO.tup0B K (UO.kwAdr K ("Stand", some "__init__") "later") && UO.tup0B K (UO.kwAdr K ("Stand", some "__init__") "back") && UO.tup0B K (UO.kwAdr K ("Unit", some "__init__") "needs") && UO.tup0B K (UO.kwAdr K ("Unit", some "__init__") "wants") && UO.tup0B K (UO.kwAdr K ("Unit", some "__init__") "bars") && UO.tup0B K (UO.kwAdr K ("Unit", some "__init__") "after") && UO.pairB "Unit" "Rule" K && UO.pairB "Unit" "Stand" K && UO.pairB "Rule" "Unit" K && UO.pairB "Rule" "Stand" K && UO.pairB "Stand" "Unit" K && UO.pairB "Stand" "Rule" K && UO.tup0B K (He.dflAt ("Plan", some "__init__") 0 K) && UO.tup0B K (He.dflAt ("Shelf", some "__init__") 0 K) && UX.ownB K (He.ga K "Lack") (He.fAd K ("Lack", some "__init__")) UX.veTail "ValueError.__new__" && UX.asksB K (He.ga K "Lack") && UX.noB K (He.ga K "Lack") "missing" && UX.noB K (He.ga K "Lack") "chain" && UX.kitB K (He.ga K "Lack") (.ref (He.ga K "Lack")) true && UX.kitB K (He.ga K "Lack") (.ref (He.ga K "Clash")) false && UX.kitB K (He.ga K "Lack") (.ref (He.ga K "Knot")) false && UX.kitB K (He.ga K "Lack") (.ref (He.ga K "NoUnit")) false && UX.kitB K (He.ga K "Lack") (.ref (He.ga K "NoShelf")) false && UX.kitB K (He.ga K "Lack") (.ref (He.ga K "UnitError")) true && UX.kitB K (He.ga K "Lack") (.type "ValueError") true && UX.ownB K (He.ga K "Clash") (He.fAd K ("Clash", some "__init__")) UX.veTail "ValueError.__new__" && UX.asksB K (He.ga K "Clash") && UX.noB K (He.ga K "Clash") "name" && UX.kitB K (He.ga K "Clash") (.ref (He.ga K "Lack")) false && UX.kitB K (He.ga K "Clash") (.ref (He.ga K "Clash")) true && UX.kitB K (He.ga K "Clash") (.ref (He.ga K "Knot")) false && UX.kitB K (He.ga K "Clash") (.ref (He.ga K "NoUnit")) false && UX.kitB K (He.ga K "Clash") (.ref (He.ga K "NoShelf")) false && UX.kitB K (He.ga K "Clash") (.ref (He.ga K "UnitError")) true && UX.kitB K (He.ga K "Clash") (.type "ValueError") true && UX.ownB K (He.ga K "Knot") (He.fAd K ("Knot", some "__init__")) UX.veTail "ValueError.__new__" && UX.asksB K (He.ga K "Knot") && UX.noB K (He.ga K "Knot") "ring" && UX.kitB K (He.ga K "Knot") (.ref (He.ga K "Lack")) false && UX.kitB K (He.ga K "Knot") (.ref (He.ga K "Clash")) false && UX.kitB K (He.ga K "Knot") (.ref (He.ga K "Knot")) true && UX.kitB K (He.ga K "Knot") (.ref (He.ga K "NoUnit")) false && UX.kitB K (He.ga K "Knot") (.ref (He.ga K "NoShelf")) false && UX.kitB K (He.ga K "Knot") (.ref (He.ga K "UnitError")) true && UX.kitB K (He.ga K "Knot") (.type "ValueError") true && UX.viB K "ValueError" "ValueError.__init__" && UX.baseB K (He.ga K "UnitError") "ValueError.__init__" && decide (PySem.W.exmOne K (.ref (He.ga K "Lack")) (.ref (He.ga K "Lack")) = some true) && decide (PySem.W.exmOne K (.ref (He.ga K "Lack")) (.ref (He.ga K "UnitError")) = some true) && decide (PySem.W.exmOne K (.ref (He.ga K "Clash")) (.ref (He.ga K "UnitError")) = some true) && decide (PySem.W.exmOne K (.ref (He.ga K "Knot")) (.ref (He.ga K "UnitError")) = some true)
abbrev hk : PySem.W.Hook := UH.hookA (3 :: 2 :: UH.upto 2500 4) fa fn exB
def ob (s : PySem.W.SharedT) : UO.AlB := UH.obsA (3 :: 2 :: UH.upto 2500 4) fa fn exB (HandSHeadRun.getT s)
theorem ob_eq (s : PySem.W.SharedT) : ob s = hk.obs s.abs := UH.obsA_eq (HandSHeadRun.getT_eq s)
def lo : List PySem.Str := ("_wall" :: "own_copy" :: "UnitError" :: "Lack" :: "Clash" :: "Knot" :: "NoUnit" :: "NoShelf" :: "at_once" :: "causes" :: "chain_to" :: "followed" :: "clash_in" :: "next_in" :: "free_order" :: "ring_in" :: "knot_in" :: "Stand" :: "open_in" :: "wants_of" :: "knot_comes" :: "words_of" :: "Plan" :: "behind" :: "without_causes" :: "spread" :: "core_on" :: "open_behind" :: "next_want" :: "with_wants" :: "plan_on" :: "plan_off" :: "Rule" :: "Shelf" :: "Unit" :: "_law_bag" :: "_law_take" :: "_law_name" :: "_law_names" :: "_law_rule_parts" :: "_law_rule" :: "_law_some" :: "_law_facts" :: "_law_unit" :: "_law_units" :: "_law_needing" :: "_law_barred" :: "_law_waited" :: "_law_next" :: "_law_followed" :: "_law_lacks" :: "_law_clash" :: "_law_knotted" :: "_law_ways" :: "_law_stand_drawn" :: "_law_stand" :: "_law_wants" :: "_law_whole" :: "_law_caused" :: "_law_right" :: "_law_asked" :: "MOST" :: ([] : List PySem.Str))
set_option maxHeartbeats 0 in
theorem run1 (w : World) (os : PySem.OsState) : (HandSHeadRun.endF (HandSHeadRun.stepQ (HandSHeadRun.denQ HandSHeadRun.tabQ) R.prog w) 8000 R.prog w os).map (fun s => HandSHeadRun.looksF R.prog (PySem.W.boot_heap w.params) s.abs) = some true := by kernel_rfl
set_option maxHeartbeats 0 in
theorem run2 (w : World) (os : PySem.OsState) : (HandSHeadRun.endF (HandSHeadRun.stepQ (HandSHeadRun.denQ HandSHeadRun.tabQ) R.prog w) 8000 R.prog w os).map (fun s => HandSHeadRun.seenQ (PySem.W.view R.prog [72]) lo (PySem.importedModules R.prog.main.body) (fun s => PySem.W.xlAt (PySem.W.view R.prog [72]) [] s && PySem.W.recOk R.toRowW.records s) s.abs) = some (PySem.W.openGood (PySem.W.view R.prog [72]) lo) := by kernel_rfl
set_option maxHeartbeats 0 in
theorem run3 (w : World) (os : PySem.OsState) : (HandSHeadRun.endF (HandSHeadRun.stepQ (HandSHeadRun.denQ HandSHeadRun.tabQ) R.prog w) 8000 R.prog w os).map ob = some (hk.val w) := by kernel_rfl
theorem run (w : World) : HandSHeadRun.RunEq R (PySem.W.view R.prog [72]) hk ob 8000 lo w := UH.run_of (r := R) (q := (PySem.W.view R.prog [72])) (H := hk) (ob := ob) (M := 8000) (loose := lo) (run1 w) (run2 w) (run3 w)
theorem facts {P : Program} {w : World} {K : PySem.W.Frag} {h : Heap} {mg : Str → Option Value} {f : Addr} (X : K.In h) (G : h.Ns mainGlobals mg) (hfa : mg ("law" : Str) = some (.ref f)) (c : He.SaysD fa fn K) (cx : exB K = true) :
    ∃ fd : FuncData, (∀ (s : Shared) (v : Value), BindsTo s fd ⟨[v], []⟩ [("_law_script", v)]) ∧ ∀ base : Heap, K.In base → base.Ns mainGlobals mg → FnOk P w K mg base CX0 13 f fd ["_law_script"] (sp_law K) := by
  obtain ⟨d0, F0⟩ := c.def_ 0 (d := dd_Lack_init) rfl
  obtain ⟨d1, F1⟩ := c.def_ 1 (d := dd_Clash_init) rfl
  obtain ⟨d2, F2⟩ := c.def_ 2 (d := dd_Knot_init) rfl
  obtain ⟨d3, F3⟩ := c.def_ 3 (d := dd_at_once) rfl
  obtain ⟨d4, F4⟩ := c.def_ 4 (d := dd_causes) rfl
  obtain ⟨d5, F5⟩ := c.def_ 5 (d := dd_chain_to) rfl
  obtain ⟨d6, F6⟩ := c.def_ 6 (d := dd_followed) rfl
  obtain ⟨d7, F7⟩ := c.def_ 7 (d := dd_clash_in) rfl
  obtain ⟨d8, F8⟩ := c.def_ 8 (d := dd_next_in) rfl
  obtain ⟨d9, F9⟩ := c.def_ 9 (d := dd_free_order) rfl
  obtain ⟨d10, F10⟩ := c.def_ 10 (d := dd_ring_in) rfl
  obtain ⟨d11, F11⟩ := c.def_ 11 (d := dd_knot_in) rfl
  obtain ⟨d12, F12⟩ := c.def_ 12 (d := dd_Stand_init) rfl
  obtain ⟨d13, F13⟩ := c.def_ 13 (d := dd_open_in) rfl
  obtain ⟨d14, F14⟩ := c.def_ 14 (d := dd_wants_of) rfl
  obtain ⟨d15, F15⟩ := c.def_ 15 (d := dd_knot_comes) rfl
  obtain ⟨d16, F16⟩ := c.def_ 16 (d := dd_words_of) rfl
  obtain ⟨d17, F17⟩ := c.def_ 17 (d := dd_Plan_init) rfl
  obtain ⟨d18, F18⟩ := c.def_ 18 (d := dd_Plan_len) rfl
  obtain ⟨d19, F19⟩ := c.def_ 19 (d := dd_behind) rfl
  obtain ⟨d20, F20⟩ := c.def_ 20 (d := dd_without_causes) rfl
  obtain ⟨d21, F21⟩ := c.def_ 21 (d := dd_spread) rfl
  obtain ⟨d22, F22⟩ := c.def_ 22 (d := dd_core_on) rfl
  obtain ⟨d23, F23⟩ := c.def_ 23 (d := dd_open_behind) rfl
  obtain ⟨d24, F24⟩ := c.def_ 24 (d := dd_next_want) rfl
  obtain ⟨d25, F25⟩ := c.def_ 25 (d := dd_with_wants) rfl
  obtain ⟨d26, F26⟩ := c.def_ 26 (d := dd_plan_on) rfl
  obtain ⟨d27, F27⟩ := c.def_ 27 (d := dd_plan_off) rfl
  obtain ⟨d28, F28⟩ := c.def_ 28 (d := dd_Rule_init) rfl
  obtain ⟨d29, F29⟩ := c.def_ 29 (d := dd_Shelf_init) rfl
  obtain ⟨d30, F30⟩ := c.def_ 30 (d := dd_Shelf_names) rfl
  obtain ⟨d31, F31⟩ := c.def_ 31 (d := dd_Shelf_has) rfl
  obtain ⟨d32, F32⟩ := c.def_ 32 (d := dd_Shelf_unit) rfl
  obtain ⟨d33, F33⟩ := c.def_ 33 (d := dd_Shelf_needing) rfl
  obtain ⟨d34, F34⟩ := c.def_ 34 (d := dd_Shelf_barred) rfl
  obtain ⟨d35, F35⟩ := c.def_ 35 (d := dd_Shelf_waited) rfl
  obtain ⟨d36, F36⟩ := c.def_ 36 (d := dd_Unit_init) rfl
  obtain ⟨d37, F37⟩ := c.def_ 37 (d := dd_law_bag) rfl
  obtain ⟨d38, F38⟩ := c.def_ 38 (d := dd_law_take) rfl
  obtain ⟨d39, F39⟩ := c.def_ 39 (d := dd_law_name) rfl
  obtain ⟨d40, F40⟩ := c.def_ 40 (d := dd_law_names) rfl
  obtain ⟨d41, F41⟩ := c.def_ 41 (d := dd_law_rule_parts) rfl
  obtain ⟨d42, F42⟩ := c.def_ 42 (d := dd_law_rule) rfl
  obtain ⟨d43, F43⟩ := c.def_ 43 (d := dd_law_some) rfl
  obtain ⟨d44, F44⟩ := c.def_ 44 (d := dd_law_facts) rfl
  obtain ⟨d45, F45⟩ := c.def_ 45 (d := dd_law_unit) rfl
  obtain ⟨d46, F46⟩ := c.def_ 46 (d := dd_law_units) rfl
  obtain ⟨d47, F47⟩ := c.def_ 47 (d := dd_law_needing) rfl
  obtain ⟨d48, F48⟩ := c.def_ 48 (d := dd_law_barred) rfl
  obtain ⟨d49, F49⟩ := c.def_ 49 (d := dd_law_waited) rfl
  obtain ⟨d50, F50⟩ := c.def_ 50 (d := dd_law_next) rfl
  obtain ⟨d51, F51⟩ := c.def_ 51 (d := dd_law_followed) rfl
  obtain ⟨d52, F52⟩ := c.def_ 52 (d := dd_law_lacks) rfl
  obtain ⟨d53, F53⟩ := c.def_ 53 (d := dd_law_clash) rfl
  obtain ⟨d54, F54⟩ := c.def_ 54 (d := dd_law_knotted) rfl
  obtain ⟨d55, F55⟩ := c.def_ 55 (d := dd_law_ways) rfl
  obtain ⟨d56, F56⟩ := c.def_ 56 (d := dd_law_stand_drawn) rfl
  obtain ⟨d57, F57⟩ := c.def_ 57 (d := dd_law_stand) rfl
  obtain ⟨d58, F58⟩ := c.def_ 58 (d := dd_law_wants) rfl
  obtain ⟨d59, F59⟩ := c.def_ 59 (d := dd_law_whole) rfl
  obtain ⟨d60, F60⟩ := c.def_ 60 (d := dd_law_caused) rfl
  obtain ⟨d61, F61⟩ := c.def_ 61 (d := dd_law_right) rfl
  obtain ⟨d62, F62⟩ := c.def_ 62 (d := dd_law_asked) rfl
  obtain ⟨d63, F63⟩ := c.def_ 63 (d := dd_law) rfl
  let T : Txt K mg := {
    d_Lack_init := d0
    F_Lack_init := F0
    b_Lack_init := FunD.bindsN (ps := ["self", "missing", "chain"]) F0 fun _ _ _ _ _ _ us hl => match us, hl with | [_, _, _], _ => rfl
    d_Clash_init := d1
    F_Clash_init := F1
    b_Clash_init := FunD.bindsN (ps := ["self", "name"]) F1 fun _ _ _ _ _ _ us hl => match us, hl with | [_, _], _ => rfl
    d_Knot_init := d2
    F_Knot_init := F2
    b_Knot_init := FunD.bindsN (ps := ["self", "ring"]) F2 fun _ _ _ _ _ _ us hl => match us, hl with | [_, _], _ => rfl
    d_at_once := d3
    F_at_once := F3
    b_at_once := FunD.bindsN (ps := ["shelf", "demand"]) F3 fun _ _ _ _ _ _ us hl => match us, hl with | [_, _], _ => rfl
    d_causes := d4
    F_causes := F4
    b_causes := FunD.bindsN (ps := ["shelf", "demands"]) F4 fun _ _ _ _ _ _ us hl => match us, hl with | [_, _], _ => rfl
    d_chain_to := d5
    F_chain_to := F5
    b_chain_to := FunD.bindsN (ps := ["found", "goal"]) F5 fun _ _ _ _ _ _ us hl => match us, hl with | [_, _], _ => rfl
    d_followed := d6
    F_followed := F6
    b_followed := FunD.bindsN (ps := ["shelf", "demands"]) F6 fun _ _ _ _ _ _ us hl => match us, hl with | [_, _], _ => rfl
    d_clash_in := d7
    F_clash_in := F7
    b_clash_in := FunD.bindsN (ps := ["demands"]) F7 fun _ _ _ _ _ _ us hl => match us, hl with | [_], _ => rfl
    d_next_in := d8
    F_next_in := F8
    b_next_in := FunD.bindsN (ps := ["waiting", "order"]) F8 fun _ _ _ _ _ _ us hl => match us, hl with | [_, _], _ => rfl
    d_free_order := d9
    F_free_order := F9
    b_free_order := FunD.bindsN (ps := ["shelf", "names"]) F9 fun _ _ _ _ _ _ us hl => match us, hl with | [_, _], _ => rfl
    d_ring_in := d10
    F_ring_in := F10
    b_ring_in := FunD.bindsN (ps := ["shelf", "stuck"]) F10 fun _ _ _ _ _ _ us hl => match us, hl with | [_, _], _ => rfl
    d_knot_in := d11
    F_knot_in := F11
    b_knot_in := FunD.bindsN (ps := ["shelf", "names"]) F11 fun _ _ _ _ _ _ us hl => match us, hl with | [_, _], _ => rfl
    d_Stand_init := d12
    F_Stand_init := F12
    d_open_in := d13
    F_open_in := F13
    b_open_in := FunD.bindsN (ps := ["stand"]) F13 fun _ _ _ _ _ _ us hl => match us, hl with | [_], _ => rfl
    d_wants_of := d14
    F_wants_of := F14
    b_wants_of := FunD.bindsN (ps := ["shelf", "stand", "name"]) F14 fun _ _ _ _ _ _ us hl => match us, hl with | [_, _, _], _ => rfl
    d_knot_comes := d15
    F_knot_comes := F15
    b_knot_comes := FunD.bindsN (ps := ["shelf", "stand", "come"]) F15 fun _ _ _ _ _ _ us hl => match us, hl with | [_, _, _], _ => rfl
    d_words_of := d16
    F_words_of := F16
    b_words_of := FunD.bindsN (ps := ["shelf", "stand", "had", "wanted"]) F16 fun _ _ _ _ _ _ us hl => match us, hl with | [_, _, _, _], _ => rfl
    d_Plan_init := d17
    F_Plan_init := F17
    b2_Plan_init := UP.binds_all (FunD.binds1 (ps := ["self", "name", "way", "demands", "dropped"]) F17 5 1 (List.cons_ne_nil _ _) rfl fun _ _ _ _ _ _ _ us its h1 h2 => match us, its, h1, h2 with | [_, _, _, _, _], [_], _, _ => ⟨_, rfl, rfl⟩)
    bp_Plan_init_4 := FunD.binds1 (ps := ["self", "name", "way", "demands", "dropped"]) F17 4 0 (List.cons_ne_nil _ _) rfl fun _ _ _ _ _ _ _ us its h1 h2 => match us, its, h1, h2 with | [_, _, _, _], [_], _, _ => ⟨_, rfl, rfl⟩
    d_Plan_len := d18
    F_Plan_len := F18
    b_Plan_len := FunD.bindsN (ps := ["self"]) F18 fun _ _ _ _ _ _ us hl => match us, hl with | [_], _ => rfl
    d_behind := d19
    F_behind := F19
    b_behind := FunD.bindsN (ps := ["stand", "plan"]) F19 fun _ _ _ _ _ _ us hl => match us, hl with | [_, _], _ => rfl
    d_without_causes := d20
    F_without_causes := F20
    b_without_causes := FunD.bindsN (ps := ["demands"]) F20 fun _ _ _ _ _ _ us hl => match us, hl with | [_], _ => rfl
    d_spread := d21
    F_spread := F21
    b_spread := FunD.bindsN (ps := ["shelf", "demands", "name", "way", "cause"]) F21 fun _ _ _ _ _ _ us hl => match us, hl with | [_, _, _, _, _], _ => rfl
    d_core_on := d22
    F_core_on := F22
    b_core_on := FunD.bindsN (ps := ["shelf", "name"]) F22 fun _ _ _ _ _ _ us hl => match us, hl with | [_, _], _ => rfl
    d_open_behind := d23
    F_open_behind := F23
    b_open_behind := FunD.bindsN (ps := ["stand", "name", "demands"]) F23 fun _ _ _ _ _ _ us hl => match us, hl with | [_, _, _], _ => rfl
    d_next_want := d24
    F_next_want := F24
    b_next_want := FunD.bindsN (ps := ["shelf", "stand", "demands", "looked"]) F24 fun _ _ _ _ _ _ us hl => match us, hl with | [_, _, _, _], _ => rfl
    d_with_wants := d25
    F_with_wants := F25
    b_with_wants := FunD.bindsN (ps := ["shelf", "stand", "core"]) F25 fun _ _ _ _ _ _ us hl => match us, hl with | [_, _, _], _ => rfl
    d_plan_on := d26
    F_plan_on := F26
    b_plan_on := FunD.bindsN (ps := ["shelf", "stand", "name"]) F26 fun _ _ _ _ _ _ us hl => match us, hl with | [_, _, _], _ => rfl
    d_plan_off := d27
    F_plan_off := F27
    b_plan_off := FunD.bindsN (ps := ["shelf", "stand", "name"]) F27 fun _ _ _ _ _ _ us hl => match us, hl with | [_, _, _], _ => rfl
    d_Rule_init := d28
    F_Rule_init := F28
    d_Shelf_init := d29
    F_Shelf_init := F29
    b2_Shelf_init := UP.binds_all (FunD.binds1 (ps := ["self", "units"]) F29 2 1 (List.cons_ne_nil _ _) rfl fun _ _ _ _ _ _ _ us its h1 h2 => match us, its, h1, h2 with | [_, _], [_], _, _ => ⟨_, rfl, rfl⟩)
    b1_Shelf_init := FunD.binds1 (ps := ["self", "units"]) F29 1 0 (List.cons_ne_nil _ _) rfl fun _ _ _ _ _ _ _ us its h1 h2 => match us, its, h1, h2 with | [_], [_], _, _ => ⟨_, rfl, rfl⟩
    d_Shelf_names := d30
    F_Shelf_names := F30
    b_Shelf_names := FunD.bindsN (ps := ["self"]) F30 fun _ _ _ _ _ _ us hl => match us, hl with | [_], _ => rfl
    d_Shelf_has := d31
    F_Shelf_has := F31
    b_Shelf_has := FunD.bindsN (ps := ["self", "name"]) F31 fun _ _ _ _ _ _ us hl => match us, hl with | [_, _], _ => rfl
    d_Shelf_unit := d32
    F_Shelf_unit := F32
    b_Shelf_unit := FunD.bindsN (ps := ["self", "name"]) F32 fun _ _ _ _ _ _ us hl => match us, hl with | [_, _], _ => rfl
    d_Shelf_needing := d33
    F_Shelf_needing := F33
    b_Shelf_needing := FunD.bindsN (ps := ["self", "name"]) F33 fun _ _ _ _ _ _ us hl => match us, hl with | [_, _], _ => rfl
    d_Shelf_barred := d34
    F_Shelf_barred := F34
    b_Shelf_barred := FunD.bindsN (ps := ["self", "name"]) F34 fun _ _ _ _ _ _ us hl => match us, hl with | [_, _], _ => rfl
    d_Shelf_waited := d35
    F_Shelf_waited := F35
    b_Shelf_waited := FunD.bindsN (ps := ["self", "name"]) F35 fun _ _ _ _ _ _ us hl => match us, hl with | [_, _], _ => rfl
    d_Unit_init := d36
    F_Unit_init := F36
    d_law_bag := d37
    F_law_bag := F37
    b_law_bag := FunD.bindsN (ps := ["_law_script", "_law_at"]) F37 fun _ _ _ _ _ _ us hl => match us, hl with | [_, _], _ => rfl
    d_law_take := d38
    F_law_take := F38
    b_law_take := FunD.bindsN (ps := ["_law_bag_here", "_law_size"]) F38 fun _ _ _ _ _ _ us hl => match us, hl with | [_, _], _ => rfl
    d_law_name := d39
    F_law_name := F39
    b_law_name := FunD.bindsN (ps := ["_law_bag_here"]) F39 fun _ _ _ _ _ _ us hl => match us, hl with | [_], _ => rfl
    d_law_names := d40
    F_law_names := F40
    b_law_names := FunD.bindsN (ps := ["_law_bag_here", "_law_size"]) F40 fun _ _ _ _ _ _ us hl => match us, hl with | [_, _], _ => rfl
    d_law_rule_parts := d41
    F_law_rule_parts := F41
    b_law_rule_parts := FunD.bindsN (ps := ["_law_bag_here"]) F41 fun _ _ _ _ _ _ us hl => match us, hl with | [_], _ => rfl
    d_law_rule := d42
    F_law_rule := F42
    b_law_rule := FunD.bindsN (ps := ["_law_five"]) F42 fun _ _ _ _ _ _ us hl => match us, hl with | [_], _ => rfl
    d_law_some := d43
    F_law_some := F43
    b_law_some := FunD.bindsN (ps := ["_law_bag_here", "_law_pool", "_law_most"]) F43 fun _ _ _ _ _ _ us hl => match us, hl with | [_, _, _], _ => rfl
    d_law_facts := d44
    F_law_facts := F44
    b_law_facts := FunD.bindsN (ps := ["_law_bag_here", "_law_most"]) F44 fun _ _ _ _ _ _ us hl => match us, hl with | [_, _], _ => rfl
    d_law_unit := d45
    F_law_unit := F45
    b_law_unit := FunD.bindsN (ps := ["_law_word", "_law_facts_here"]) F45 fun _ _ _ _ _ _ us hl => match us, hl with | [_, _], _ => rfl
    d_law_units := d46
    F_law_units := F46
    b_law_units := FunD.bindsN (ps := ["_law_facts_here"]) F46 fun _ _ _ _ _ _ us hl => match us, hl with | [_], _ => rfl
    d_law_needing := d47
    F_law_needing := F47
    b_law_needing := FunD.bindsN (ps := ["_law_facts_here", "_law_word"]) F47 fun _ _ _ _ _ _ us hl => match us, hl with | [_, _], _ => rfl
    d_law_barred := d48
    F_law_barred := F48
    b_law_barred := FunD.bindsN (ps := ["_law_facts_here", "_law_word"]) F48 fun _ _ _ _ _ _ us hl => match us, hl with | [_, _], _ => rfl
    d_law_waited := d49
    F_law_waited := F49
    b_law_waited := FunD.bindsN (ps := ["_law_facts_here", "_law_word"]) F49 fun _ _ _ _ _ _ us hl => match us, hl with | [_, _], _ => rfl
    d_law_next := d50
    F_law_next := F50
    b_law_next := FunD.bindsN (ps := ["_law_facts_here", "_law_demand"]) F50 fun _ _ _ _ _ _ us hl => match us, hl with | [_, _], _ => rfl
    d_law_followed := d51
    F_law_followed := F51
    b_law_followed := FunD.bindsN (ps := ["_law_facts_here", "_law_demands"]) F51 fun _ _ _ _ _ _ us hl => match us, hl with | [_, _], _ => rfl
    d_law_lacks := d52
    F_law_lacks := F52
    b_law_lacks := FunD.bindsN (ps := ["_law_facts_here", "_law_demands"]) F52 fun _ _ _ _ _ _ us hl => match us, hl with | [_, _], _ => rfl
    d_law_clash := d53
    F_law_clash := F53
    b_law_clash := FunD.bindsN (ps := ["_law_demands"]) F53 fun _ _ _ _ _ _ us hl => match us, hl with | [_], _ => rfl
    d_law_knotted := d54
    F_law_knotted := F54
    b_law_knotted := FunD.bindsN (ps := ["_law_facts_here", "_law_some_here"]) F54 fun _ _ _ _ _ _ us hl => match us, hl with | [_, _], _ => rfl
    d_law_ways := d55
    F_law_ways := F55
    b_law_ways := FunD.bindsN (ps := ["_law_demands", "_law_way"]) F55 fun _ _ _ _ _ _ us hl => match us, hl with | [_, _], _ => rfl
    d_law_stand_drawn := d56
    F_law_stand_drawn := F56
    b_law_stand_drawn := FunD.bindsN (ps := ["_law_bag_here", "_law_facts_here"]) F56 fun _ _ _ _ _ _ us hl => match us, hl with | [_, _], _ => rfl
    d_law_stand := d57
    F_law_stand := F57
    b_law_stand := FunD.bindsN (ps := ["_law_four"]) F57 fun _ _ _ _ _ _ us hl => match us, hl with | [_], _ => rfl
    d_law_wants := d58
    F_law_wants := F58
    b_law_wants := FunD.bindsN (ps := ["_law_facts_here", "_law_four", "_law_asker"]) F58 fun _ _ _ _ _ _ us hl => match us, hl with | [_, _, _], _ => rfl
    d_law_whole := d59
    F_law_whole := F59
    b_law_whole := FunD.bindsN (ps := ["_law_thing"]) F59 fun _ _ _ _ _ _ us hl => match us, hl with | [_], _ => rfl
    d_law_caused := d60
    F_law_caused := F60
    b_law_caused := FunD.bindsN (ps := ["_law_facts_here", "_law_four", "_law_demands", "_law_spot"]) F60 fun _ _ _ _ _ _ us hl => match us, hl with | [_, _, _, _], _ => rfl
    d_law_right := d61
    F_law_right := F61
    b_law_right := FunD.bindsN (ps := ["_law_facts_here", "_law_four", "_law_told", "_law_word", "_law_way"]) F61 fun _ _ _ _ _ _ us hl => match us, hl with | [_, _, _, _, _], _ => rfl
    d_law_asked := d62
    F_law_asked := F62
    b_law_asked := FunD.bindsN (ps := ["_law_facts_here", "_law_own_shelf", "_law_four", "_law_word"]) F62 fun _ _ _ _ _ _ us hl => match us, hl with | [_, _, _, _], _ => rfl
    d_law := d63
    F_law := F63
    b_law := FunD.bindsN (ps := ["_law_script"]) F63 fun _ _ _ _ _ _ us hl => match us, hl with | [_], _ => rfl
    m_at_once := He.glo_ok X G (c.fact 0 (f := .glo "at_once") rfl)
    m_causes := He.glo_ok X G (c.fact 1 (f := .glo "causes") rfl)
    m_chain_to := He.glo_ok X G (c.fact 2 (f := .glo "chain_to") rfl)
    m_followed := He.glo_ok X G (c.fact 3 (f := .glo "followed") rfl)
    m_clash_in := He.glo_ok X G (c.fact 4 (f := .glo "clash_in") rfl)
    m_next_in := He.glo_ok X G (c.fact 5 (f := .glo "next_in") rfl)
    m_free_order := He.glo_ok X G (c.fact 6 (f := .glo "free_order") rfl)
    m_ring_in := He.glo_ok X G (c.fact 7 (f := .glo "ring_in") rfl)
    m_knot_in := He.glo_ok X G (c.fact 8 (f := .glo "knot_in") rfl)
    m_open_in := He.glo_ok X G (c.fact 9 (f := .glo "open_in") rfl)
    m_wants_of := He.glo_ok X G (c.fact 10 (f := .glo "wants_of") rfl)
    m_knot_comes := He.glo_ok X G (c.fact 11 (f := .glo "knot_comes") rfl)
    m_words_of := He.glo_ok X G (c.fact 12 (f := .glo "words_of") rfl)
    me_Plan_len := He.meth_ok (c.fact 13 (f := .meth "Plan" "__len__") rfl)
    m_behind := He.glo_ok X G (c.fact 14 (f := .glo "behind") rfl)
    m_without_causes := He.glo_ok X G (c.fact 15 (f := .glo "without_causes") rfl)
    m_spread := He.glo_ok X G (c.fact 16 (f := .glo "spread") rfl)
    m_core_on := He.glo_ok X G (c.fact 17 (f := .glo "core_on") rfl)
    m_open_behind := He.glo_ok X G (c.fact 18 (f := .glo "open_behind") rfl)
    m_next_want := He.glo_ok X G (c.fact 19 (f := .glo "next_want") rfl)
    m_with_wants := He.glo_ok X G (c.fact 20 (f := .glo "with_wants") rfl)
    m_plan_on := He.glo_ok X G (c.fact 21 (f := .glo "plan_on") rfl)
    m_plan_off := He.glo_ok X G (c.fact 22 (f := .glo "plan_off") rfl)
    me_Shelf_names := He.meth_ok (c.fact 23 (f := .meth "Shelf" "names") rfl)
    me_Shelf_has := He.meth_ok (c.fact 24 (f := .meth "Shelf" "has") rfl)
    me_Shelf_unit := He.meth_ok (c.fact 25 (f := .meth "Shelf" "unit") rfl)
    me_Shelf_needing := He.meth_ok (c.fact 26 (f := .meth "Shelf" "needing") rfl)
    me_Shelf_barred := He.meth_ok (c.fact 27 (f := .meth "Shelf" "barred") rfl)
    me_Shelf_waited := He.meth_ok (c.fact 28 (f := .meth "Shelf" "waited") rfl)
    m_law_bag := He.glo_ok X G (c.fact 29 (f := .glo "_law_bag") rfl)
    m_law_take := He.glo_ok X G (c.fact 30 (f := .glo "_law_take") rfl)
    m_law_name := He.glo_ok X G (c.fact 31 (f := .glo "_law_name") rfl)
    m_law_names := He.glo_ok X G (c.fact 32 (f := .glo "_law_names") rfl)
    m_law_rule_parts := He.glo_ok X G (c.fact 33 (f := .glo "_law_rule_parts") rfl)
    m_law_rule := He.glo_ok X G (c.fact 34 (f := .glo "_law_rule") rfl)
    m_law_some := He.glo_ok X G (c.fact 35 (f := .glo "_law_some") rfl)
    m_law_facts := He.glo_ok X G (c.fact 36 (f := .glo "_law_facts") rfl)
    m_law_unit := He.glo_ok X G (c.fact 37 (f := .glo "_law_unit") rfl)
    m_law_units := He.glo_ok X G (c.fact 38 (f := .glo "_law_units") rfl)
    m_law_needing := He.glo_ok X G (c.fact 39 (f := .glo "_law_needing") rfl)
    m_law_barred := He.glo_ok X G (c.fact 40 (f := .glo "_law_barred") rfl)
    m_law_waited := He.glo_ok X G (c.fact 41 (f := .glo "_law_waited") rfl)
    m_law_next := He.glo_ok X G (c.fact 42 (f := .glo "_law_next") rfl)
    m_law_followed := He.glo_ok X G (c.fact 43 (f := .glo "_law_followed") rfl)
    m_law_lacks := He.glo_ok X G (c.fact 44 (f := .glo "_law_lacks") rfl)
    m_law_clash := He.glo_ok X G (c.fact 45 (f := .glo "_law_clash") rfl)
    m_law_knotted := He.glo_ok X G (c.fact 46 (f := .glo "_law_knotted") rfl)
    m_law_ways := He.glo_ok X G (c.fact 47 (f := .glo "_law_ways") rfl)
    m_law_stand_drawn := He.glo_ok X G (c.fact 48 (f := .glo "_law_stand_drawn") rfl)
    m_law_stand := He.glo_ok X G (c.fact 49 (f := .glo "_law_stand") rfl)
    m_law_wants := He.glo_ok X G (c.fact 50 (f := .glo "_law_wants") rfl)
    m_law_whole := He.glo_ok X G (c.fact 51 (f := .glo "_law_whole") rfl)
    m_law_caused := He.glo_ok X G (c.fact 52 (f := .glo "_law_caused") rfl)
    m_law_right := He.glo_ok X G (c.fact 53 (f := .glo "_law_right") rfl)
    m_law_asked := He.glo_ok X G (c.fact 54 (f := .glo "_law_asked") rfl)
    m_law := He.glo_ok X G (c.fact 55 (f := .glo "law") rfl)
    m_Stand := He.glo_ok X G (c.fact 56 (f := .glo "Stand") rfl)
    cl_Stand := He.cls_ok (c.fact 57 (f := .cls "Stand") rfl)
    mk_Stand := He.mkr_ok (c.fact 58 (f := .mkr "Stand") rfl)
    na_Stand_wished := He.noat_ok (c.fact 59 (f := .noat "Stand" "wished") rfl)
    na_Stand_up := He.noat_ok (c.fact 60 (f := .noat "Stand" "up") rfl)
    na_Stand_later := He.noat_ok (c.fact 61 (f := .noat "Stand" "later") rfl)
    na_Stand_back := He.noat_ok (c.fact 62 (f := .noat "Stand" "back") rfl)
    m_Plan := He.glo_ok X G (c.fact 63 (f := .glo "Plan") rfl)
    cl_Plan := He.cls_ok (c.fact 64 (f := .cls "Plan") rfl)
    mk_Plan := He.mkr_ok (c.fact 65 (f := .mkr "Plan") rfl)
    na_Plan_name := He.noat_ok (c.fact 66 (f := .noat "Plan" "name") rfl)
    na_Plan_way := He.noat_ok (c.fact 67 (f := .noat "Plan" "way") rfl)
    na_Plan_demands := He.noat_ok (c.fact 68 (f := .noat "Plan" "demands") rfl)
    na_Plan_dropped := He.noat_ok (c.fact 69 (f := .noat "Plan" "dropped") rfl)
    m_Rule := He.glo_ok X G (c.fact 70 (f := .glo "Rule") rfl)
    cl_Rule := He.cls_ok (c.fact 71 (f := .cls "Rule") rfl)
    mk_Rule := He.mkr_ok (c.fact 72 (f := .mkr "Rule") rfl)
    na_Rule_first := He.noat_ok (c.fact 73 (f := .noat "Rule" "first") rfl)
    na_Rule_times := He.noat_ok (c.fact 74 (f := .noat "Rule" "times") rfl)
    na_Rule_top := He.noat_ok (c.fact 75 (f := .noat "Rule" "top") rfl)
    na_Rule_burst := He.noat_ok (c.fact 76 (f := .noat "Rule" "burst") rfl)
    na_Rule_span := He.noat_ok (c.fact 77 (f := .noat "Rule" "span") rfl)
    m_Shelf := He.glo_ok X G (c.fact 78 (f := .glo "Shelf") rfl)
    cl_Shelf := He.cls_ok (c.fact 79 (f := .cls "Shelf") rfl)
    mk_Shelf := He.mkr_ok (c.fact 80 (f := .mkr "Shelf") rfl)
    na_Shelf_by_name := He.noat_ok (c.fact 81 (f := .noat "Shelf" "by_name") rfl)
    m_Unit := He.glo_ok X G (c.fact 82 (f := .glo "Unit") rfl)
    cl_Unit := He.cls_ok (c.fact 83 (f := .cls "Unit") rfl)
    mk_Unit := He.mkr_ok (c.fact 84 (f := .mkr "Unit") rfl)
    na_Unit_name := He.noat_ok (c.fact 85 (f := .noat "Unit" "name") rfl)
    na_Unit_kind := He.noat_ok (c.fact 86 (f := .noat "Unit" "kind") rfl)
    na_Unit_needs := He.noat_ok (c.fact 87 (f := .noat "Unit" "needs") rfl)
    na_Unit_wants := He.noat_ok (c.fact 88 (f := .noat "Unit" "wants") rfl)
    na_Unit_bars := He.noat_ok (c.fact 89 (f := .noat "Unit" "bars") rfl)
    na_Unit_after := He.noat_ok (c.fact 90 (f := .noat "Unit" "after") rfl)
    na_Unit_opens := He.noat_ok (c.fact 91 (f := .noat "Unit" "opens") rfl)
    na_Unit_rule := He.noat_ok (c.fact 92 (f := .noat "Unit" "rule") rfl)
    m_Lack := He.glo_ok X G (c.fact 93 (f := .glo "Lack") rfl)
    m_Clash := He.glo_ok X G (c.fact 94 (f := .glo "Clash") rfl)
    m_Knot := He.glo_ok X G (c.fact 95 (f := .glo "Knot") rfl)
    m_NoUnit := He.glo_ok X G (c.fact 96 (f := .glo "NoUnit") rfl)
    m_NoShelf := He.glo_ok X G (c.fact 97 (f := .glo "NoShelf") rfl)
    m_UnitError := He.glo_ok X G (c.fact 98 (f := .glo "UnitError") rfl)
    c_MOST := He.int_ok X G (c.fact 99 (f := .int "MOST" 16) rfl)
    n_list := He.free_ok X G (c.fact 100 (f := .free "list") rfl)
    n_sorted := He.free_ok X G (c.fact 101 (f := .free "sorted") rfl)
    n_len := He.free_ok X G (c.fact 102 (f := .free "len") rfl)
    n_min := He.free_ok X G (c.fact 103 (f := .free "min") rfl)
    n_all := He.free_ok X G (c.fact 104 (f := .free "all") rfl)
    n_any := He.free_ok X G (c.fact 105 (f := .free "any") rfl)
    n_tuple := He.free_ok X G (c.fact 106 (f := .free "tuple") rfl)
    n_set := He.free_ok X G (c.fact 107 (f := .free "set") rfl)
    n_isinstance := He.free_ok X G (c.fact 108 (f := .free "isinstance") rfl)
    n_str := He.free_ok X G (c.fact 109 (f := .free "str") rfl)
    n_abs := He.free_ok X G (c.fact 110 (f := .free "abs") rfl)
    n_int := He.free_ok X G (c.fact 111 (f := .free "int") rfl)
    n_range := He.free_ok X G (c.fact 112 (f := .free "range") rfl)
    n_bool := He.free_ok X G (c.fact 113 (f := .free "bool") rfl)
    n_max := He.free_ok X G (c.fact 114 (f := .free "max") rfl)
    ix_Unit := UO.insB_ok (He.ba (He.ba (He.ba (He.ba (He.ba (He.ba (He.ba (He.ba (He.ba (He.ba (He.ba (He.ba (He.ba (He.ba (He.ba (He.ba (He.ba (He.ba (He.ba (He.ba (He.ba (He.ba (He.ba (He.ba (He.ba (He.ba (He.ba (He.ba (He.ba (He.ba (He.ba (He.ba (He.ba (He.ba (He.ba (He.ba (He.ba (He.ba (He.ba (He.ba (He.ba (He.ba (He.ba (He.ba (He.ba (He.ba (He.ba (He.ba (He.ba (He.ba (He.ba (He.ba (He.ba (He.ba (He.ba cx).1).1).1).1).1).1).1).1).1).1).1).1).1).1).1).1).1).1).1).1).1).1).1).1).1).1).1).1).1).1).1).1).1).1).1).1).1).1).1).1).1).1).1).1).1).1).1).1).1).1).1).1).1).1).1
    ix_Rule := UO.insB_ok (He.ba (He.ba (He.ba (He.ba (He.ba (He.ba (He.ba (He.ba (He.ba (He.ba (He.ba (He.ba (He.ba (He.ba (He.ba (He.ba (He.ba (He.ba (He.ba (He.ba (He.ba (He.ba (He.ba (He.ba (He.ba (He.ba (He.ba (He.ba (He.ba (He.ba (He.ba (He.ba (He.ba (He.ba (He.ba (He.ba (He.ba (He.ba (He.ba (He.ba (He.ba (He.ba (He.ba (He.ba (He.ba (He.ba (He.ba (He.ba (He.ba (He.ba (He.ba (He.ba (He.ba (He.ba (He.ba cx).1).1).1).1).1).1).1).1).1).1).1).1).1).1).1).1).1).1).1).1).1).1).1).1).1).1).1).1).1).1).1).1).1).1).1).1).1).1).1).1).1).1).1).1).1).1).1).1).1).1).1).1).1).1).2
    ix_Stand := UO.insB_ok (He.ba (He.ba (He.ba (He.ba (He.ba (He.ba (He.ba (He.ba (He.ba (He.ba (He.ba (He.ba (He.ba (He.ba (He.ba (He.ba (He.ba (He.ba (He.ba (He.ba (He.ba (He.ba (He.ba (He.ba (He.ba (He.ba (He.ba (He.ba (He.ba (He.ba (He.ba (He.ba (He.ba (He.ba (He.ba (He.ba (He.ba (He.ba (He.ba (He.ba (He.ba (He.ba (He.ba (He.ba (He.ba (He.ba (He.ba (He.ba (He.ba (He.ba (He.ba (He.ba (He.ba (He.ba cx).1).1).1).1).1).1).1).1).1).1).1).1).1).1).1).1).1).1).1).1).1).1).1).1).1).1).1).1).1).1).1).1).1).1).1).1).1).1).1).1).1).1).1).1).1).1).1).1).1).1).1).1).1).2
    e0_Stand_init_wished := fun H => UO.tup0B_ok (He.ba (He.ba (He.ba (He.ba (He.ba (He.ba (He.ba (He.ba (He.ba (He.ba (He.ba (He.ba (He.ba (He.ba (He.ba (He.ba (He.ba (He.ba (He.ba (He.ba (He.ba (He.ba (He.ba (He.ba (He.ba (He.ba (He.ba (He.ba (He.ba (He.ba (He.ba (He.ba (He.ba (He.ba (He.ba (He.ba (He.ba (He.ba (He.ba (He.ba (He.ba (He.ba (He.ba (He.ba (He.ba (He.ba (He.ba (He.ba (He.ba (He.ba (He.ba (He.ba (He.ba cx).1).1).1).1).1).1).1).1).1).1).1).1).1).1).1).1).1).1).1).1).1).1).1).1).1).1).1).1).1).1).1).1).1).1).1).1).1).1).1).1).1).1).1).1).1).1).1).1).1).1).1).1).2 H
    e0_Stand_init_up := fun H => UO.tup0B_ok (He.ba (He.ba (He.ba (He.ba (He.ba (He.ba (He.ba (He.ba (He.ba (He.ba (He.ba (He.ba (He.ba (He.ba (He.ba (He.ba (He.ba (He.ba (He.ba (He.ba (He.ba (He.ba (He.ba (He.ba (He.ba (He.ba (He.ba (He.ba (He.ba (He.ba (He.ba (He.ba (He.ba (He.ba (He.ba (He.ba (He.ba (He.ba (He.ba (He.ba (He.ba (He.ba (He.ba (He.ba (He.ba (He.ba (He.ba (He.ba (He.ba (He.ba (He.ba (He.ba cx).1).1).1).1).1).1).1).1).1).1).1).1).1).1).1).1).1).1).1).1).1).1).1).1).1).1).1).1).1).1).1).1).1).1).1).1).1).1).1).1).1).1).1).1).1).1).1).1).1).1).1).2 H
    e0_Stand_init_later := fun H => UO.tup0B_ok (He.ba (He.ba (He.ba (He.ba (He.ba (He.ba (He.ba (He.ba (He.ba (He.ba (He.ba (He.ba (He.ba (He.ba (He.ba (He.ba (He.ba (He.ba (He.ba (He.ba (He.ba (He.ba (He.ba (He.ba (He.ba (He.ba (He.ba (He.ba (He.ba (He.ba (He.ba (He.ba (He.ba (He.ba (He.ba (He.ba (He.ba (He.ba (He.ba (He.ba (He.ba (He.ba (He.ba (He.ba (He.ba (He.ba (He.ba (He.ba (He.ba (He.ba (He.ba cx).1).1).1).1).1).1).1).1).1).1).1).1).1).1).1).1).1).1).1).1).1).1).1).1).1).1).1).1).1).1).1).1).1).1).1).1).1).1).1).1).1).1).1).1).1).1).1).1).1).1).2 H
    e0_Stand_init_back := fun H => UO.tup0B_ok (He.ba (He.ba (He.ba (He.ba (He.ba (He.ba (He.ba (He.ba (He.ba (He.ba (He.ba (He.ba (He.ba (He.ba (He.ba (He.ba (He.ba (He.ba (He.ba (He.ba (He.ba (He.ba (He.ba (He.ba (He.ba (He.ba (He.ba (He.ba (He.ba (He.ba (He.ba (He.ba (He.ba (He.ba (He.ba (He.ba (He.ba (He.ba (He.ba (He.ba (He.ba (He.ba (He.ba (He.ba (He.ba (He.ba (He.ba (He.ba (He.ba (He.ba cx).1).1).1).1).1).1).1).1).1).1).1).1).1).1).1).1).1).1).1).1).1).1).1).1).1).1).1).1).1).1).1).1).1).1).1).1).1).1).1).1).1).1).1).1).1).1).1).1).1).2 H
    e0_Unit_init_needs := fun H => UO.tup0B_ok (He.ba (He.ba (He.ba (He.ba (He.ba (He.ba (He.ba (He.ba (He.ba (He.ba (He.ba (He.ba (He.ba (He.ba (He.ba (He.ba (He.ba (He.ba (He.ba (He.ba (He.ba (He.ba (He.ba (He.ba (He.ba (He.ba (He.ba (He.ba (He.ba (He.ba (He.ba (He.ba (He.ba (He.ba (He.ba (He.ba (He.ba (He.ba (He.ba (He.ba (He.ba (He.ba (He.ba (He.ba (He.ba (He.ba (He.ba (He.ba (He.ba cx).1).1).1).1).1).1).1).1).1).1).1).1).1).1).1).1).1).1).1).1).1).1).1).1).1).1).1).1).1).1).1).1).1).1).1).1).1).1).1).1).1).1).1).1).1).1).1).1).2 H
    e0_Unit_init_wants := fun H => UO.tup0B_ok (He.ba (He.ba (He.ba (He.ba (He.ba (He.ba (He.ba (He.ba (He.ba (He.ba (He.ba (He.ba (He.ba (He.ba (He.ba (He.ba (He.ba (He.ba (He.ba (He.ba (He.ba (He.ba (He.ba (He.ba (He.ba (He.ba (He.ba (He.ba (He.ba (He.ba (He.ba (He.ba (He.ba (He.ba (He.ba (He.ba (He.ba (He.ba (He.ba (He.ba (He.ba (He.ba (He.ba (He.ba (He.ba (He.ba (He.ba (He.ba cx).1).1).1).1).1).1).1).1).1).1).1).1).1).1).1).1).1).1).1).1).1).1).1).1).1).1).1).1).1).1).1).1).1).1).1).1).1).1).1).1).1).1).1).1).1).1).1).2 H
    e0_Unit_init_bars := fun H => UO.tup0B_ok (He.ba (He.ba (He.ba (He.ba (He.ba (He.ba (He.ba (He.ba (He.ba (He.ba (He.ba (He.ba (He.ba (He.ba (He.ba (He.ba (He.ba (He.ba (He.ba (He.ba (He.ba (He.ba (He.ba (He.ba (He.ba (He.ba (He.ba (He.ba (He.ba (He.ba (He.ba (He.ba (He.ba (He.ba (He.ba (He.ba (He.ba (He.ba (He.ba (He.ba (He.ba (He.ba (He.ba (He.ba (He.ba (He.ba (He.ba cx).1).1).1).1).1).1).1).1).1).1).1).1).1).1).1).1).1).1).1).1).1).1).1).1).1).1).1).1).1).1).1).1).1).1).1).1).1).1).1).1).1).1).1).1).1).1).2 H
    e0_Unit_init_after := fun H => UO.tup0B_ok (He.ba (He.ba (He.ba (He.ba (He.ba (He.ba (He.ba (He.ba (He.ba (He.ba (He.ba (He.ba (He.ba (He.ba (He.ba (He.ba (He.ba (He.ba (He.ba (He.ba (He.ba (He.ba (He.ba (He.ba (He.ba (He.ba (He.ba (He.ba (He.ba (He.ba (He.ba (He.ba (He.ba (He.ba (He.ba (He.ba (He.ba (He.ba (He.ba (He.ba (He.ba (He.ba (He.ba (He.ba (He.ba (He.ba cx).1).1).1).1).1).1).1).1).1).1).1).1).1).1).1).1).1).1).1).1).1).1).1).1).1).1).1).1).1).1).1).1).1).1).1).1).1).1).1).1).1).1).1).1).1).2 H
    px_Unit_Rule := UO.pairB_ok (He.ba (He.ba (He.ba (He.ba (He.ba (He.ba (He.ba (He.ba (He.ba (He.ba (He.ba (He.ba (He.ba (He.ba (He.ba (He.ba (He.ba (He.ba (He.ba (He.ba (He.ba (He.ba (He.ba (He.ba (He.ba (He.ba (He.ba (He.ba (He.ba (He.ba (He.ba (He.ba (He.ba (He.ba (He.ba (He.ba (He.ba (He.ba (He.ba (He.ba (He.ba (He.ba (He.ba (He.ba (He.ba cx).1).1).1).1).1).1).1).1).1).1).1).1).1).1).1).1).1).1).1).1).1).1).1).1).1).1).1).1).1).1).1).1).1).1).1).1).1).1).1).1).1).1).1).1).2
    px_Unit_Stand := UO.pairB_ok (He.ba (He.ba (He.ba (He.ba (He.ba (He.ba (He.ba (He.ba (He.ba (He.ba (He.ba (He.ba (He.ba (He.ba (He.ba (He.ba (He.ba (He.ba (He.ba (He.ba (He.ba (He.ba (He.ba (He.ba (He.ba (He.ba (He.ba (He.ba (He.ba (He.ba (He.ba (He.ba (He.ba (He.ba (He.ba (He.ba (He.ba (He.ba (He.ba (He.ba (He.ba (He.ba (He.ba (He.ba cx).1).1).1).1).1).1).1).1).1).1).1).1).1).1).1).1).1).1).1).1).1).1).1).1).1).1).1).1).1).1).1).1).1).1).1).1).1).1).1).1).1).1).1).2
    px_Rule_Unit := UO.pairB_ok (He.ba (He.ba (He.ba (He.ba (He.ba (He.ba (He.ba (He.ba (He.ba (He.ba (He.ba (He.ba (He.ba (He.ba (He.ba (He.ba (He.ba (He.ba (He.ba (He.ba (He.ba (He.ba (He.ba (He.ba (He.ba (He.ba (He.ba (He.ba (He.ba (He.ba (He.ba (He.ba (He.ba (He.ba (He.ba (He.ba (He.ba (He.ba (He.ba (He.ba (He.ba (He.ba (He.ba cx).1).1).1).1).1).1).1).1).1).1).1).1).1).1).1).1).1).1).1).1).1).1).1).1).1).1).1).1).1).1).1).1).1).1).1).1).1).1).1).1).1).1).2
    px_Rule_Stand := UO.pairB_ok (He.ba (He.ba (He.ba (He.ba (He.ba (He.ba (He.ba (He.ba (He.ba (He.ba (He.ba (He.ba (He.ba (He.ba (He.ba (He.ba (He.ba (He.ba (He.ba (He.ba (He.ba (He.ba (He.ba (He.ba (He.ba (He.ba (He.ba (He.ba (He.ba (He.ba (He.ba (He.ba (He.ba (He.ba (He.ba (He.ba (He.ba (He.ba (He.ba (He.ba (He.ba (He.ba cx).1).1).1).1).1).1).1).1).1).1).1).1).1).1).1).1).1).1).1).1).1).1).1).1).1).1).1).1).1).1).1).1).1).1).1).1).1).1).1).1).1).2
    px_Stand_Unit := UO.pairB_ok (He.ba (He.ba (He.ba (He.ba (He.ba (He.ba (He.ba (He.ba (He.ba (He.ba (He.ba (He.ba (He.ba (He.ba (He.ba (He.ba (He.ba (He.ba (He.ba (He.ba (He.ba (He.ba (He.ba (He.ba (He.ba (He.ba (He.ba (He.ba (He.ba (He.ba (He.ba (He.ba (He.ba (He.ba (He.ba (He.ba (He.ba (He.ba (He.ba (He.ba (He.ba cx).1).1).1).1).1).1).1).1).1).1).1).1).1).1).1).1).1).1).1).1).1).1).1).1).1).1).1).1).1).1).1).1).1).1).1).1).1).1).1).1).2
    px_Stand_Rule := UO.pairB_ok (He.ba (He.ba (He.ba (He.ba (He.ba (He.ba (He.ba (He.ba (He.ba (He.ba (He.ba (He.ba (He.ba (He.ba (He.ba (He.ba (He.ba (He.ba (He.ba (He.ba (He.ba (He.ba (He.ba (He.ba (He.ba (He.ba (He.ba (He.ba (He.ba (He.ba (He.ba (He.ba (He.ba (He.ba (He.ba (He.ba (He.ba (He.ba (He.ba (He.ba cx).1).1).1).1).1).1).1).1).1).1).1).1).1).1).1).1).1).1).1).1).1).1).1).1).1).1).1).1).1).1).1).1).1).1).1).1).1).1).1).2
    e1_Plan_init := fun H => UO.tup0B_ok (He.ba (He.ba (He.ba (He.ba (He.ba (He.ba (He.ba (He.ba (He.ba (He.ba (He.ba (He.ba (He.ba (He.ba (He.ba (He.ba (He.ba (He.ba (He.ba (He.ba (He.ba (He.ba (He.ba (He.ba (He.ba (He.ba (He.ba (He.ba (He.ba (He.ba (He.ba (He.ba (He.ba (He.ba (He.ba (He.ba (He.ba (He.ba (He.ba cx).1).1).1).1).1).1).1).1).1).1).1).1).1).1).1).1).1).1).1).1).1).1).1).1).1).1).1).1).1).1).1).1).1).1).1).1).1).1).2 H
    e1_Shelf_init := fun H => UO.tup0B_ok (He.ba (He.ba (He.ba (He.ba (He.ba (He.ba (He.ba (He.ba (He.ba (He.ba (He.ba (He.ba (He.ba (He.ba (He.ba (He.ba (He.ba (He.ba (He.ba (He.ba (He.ba (He.ba (He.ba (He.ba (He.ba (He.ba (He.ba (He.ba (He.ba (He.ba (He.ba (He.ba (He.ba (He.ba (He.ba (He.ba (He.ba (He.ba cx).1).1).1).1).1).1).1).1).1).1).1).1).1).1).1).1).1).1).1).1).1).1).1).1).1).1).1).1).1).1).1).1).1).1).1).1).1).2 H
    ox_Lack := UX.ownB_ok (UE.BaseM.exc PySem.F.excBase_ValueError) PySem.F.store_ValueError ((He.ba (He.ba (He.ba (He.ba (He.ba (He.ba (He.ba (He.ba (He.ba (He.ba (He.ba (He.ba (He.ba (He.ba (He.ba (He.ba (He.ba (He.ba (He.ba (He.ba (He.ba (He.ba (He.ba (He.ba (He.ba (He.ba (He.ba (He.ba (He.ba (He.ba (He.ba (He.ba (He.ba (He.ba (He.ba (He.ba (He.ba cx).1).1).1).1).1).1).1).1).1).1).1).1).1).1).1).1).1).1).1).1).1).1).1).1).1).1).1).1).1).1).1).1).1).1).1).1).2)
    ax_Lack := UX.asksB_ok ((He.ba (He.ba (He.ba (He.ba (He.ba (He.ba (He.ba (He.ba (He.ba (He.ba (He.ba (He.ba (He.ba (He.ba (He.ba (He.ba (He.ba (He.ba (He.ba (He.ba (He.ba (He.ba (He.ba (He.ba (He.ba (He.ba (He.ba (He.ba (He.ba (He.ba (He.ba (He.ba (He.ba (He.ba (He.ba (He.ba cx).1).1).1).1).1).1).1).1).1).1).1).1).1).1).1).1).1).1).1).1).1).1).1).1).1).1).1).1).1).1).1).1).1).1).1).2)
    oa_Lack_missing := of_decide_eq_true ((He.ba (He.ba (He.ba (He.ba (He.ba (He.ba (He.ba (He.ba (He.ba (He.ba (He.ba (He.ba (He.ba (He.ba (He.ba (He.ba (He.ba (He.ba (He.ba (He.ba (He.ba (He.ba (He.ba (He.ba (He.ba (He.ba (He.ba (He.ba (He.ba (He.ba (He.ba (He.ba (He.ba (He.ba (He.ba cx).1).1).1).1).1).1).1).1).1).1).1).1).1).1).1).1).1).1).1).1).1).1).1).1).1).1).1).1).1).1).1).1).1).1).2)
    oa_Lack_chain := of_decide_eq_true ((He.ba (He.ba (He.ba (He.ba (He.ba (He.ba (He.ba (He.ba (He.ba (He.ba (He.ba (He.ba (He.ba (He.ba (He.ba (He.ba (He.ba (He.ba (He.ba (He.ba (He.ba (He.ba (He.ba (He.ba (He.ba (He.ba (He.ba (He.ba (He.ba (He.ba (He.ba (He.ba (He.ba (He.ba cx).1).1).1).1).1).1).1).1).1).1).1).1).1).1).1).1).1).1).1).1).1).1).1).1).1).1).1).1).1).1).1).1).1).2)
    kx_Lack_Lack := of_decide_eq_true ((He.ba (He.ba (He.ba (He.ba (He.ba (He.ba (He.ba (He.ba (He.ba (He.ba (He.ba (He.ba (He.ba (He.ba (He.ba (He.ba (He.ba (He.ba (He.ba (He.ba (He.ba (He.ba (He.ba (He.ba (He.ba (He.ba (He.ba (He.ba (He.ba (He.ba (He.ba (He.ba (He.ba cx).1).1).1).1).1).1).1).1).1).1).1).1).1).1).1).1).1).1).1).1).1).1).1).1).1).1).1).1).1).1).1).1).2)
    kx_Lack_Clash := of_decide_eq_true ((He.ba (He.ba (He.ba (He.ba (He.ba (He.ba (He.ba (He.ba (He.ba (He.ba (He.ba (He.ba (He.ba (He.ba (He.ba (He.ba (He.ba (He.ba (He.ba (He.ba (He.ba (He.ba (He.ba (He.ba (He.ba (He.ba (He.ba (He.ba (He.ba (He.ba (He.ba (He.ba cx).1).1).1).1).1).1).1).1).1).1).1).1).1).1).1).1).1).1).1).1).1).1).1).1).1).1).1).1).1).1).1).2)
    kx_Lack_Knot := of_decide_eq_true ((He.ba (He.ba (He.ba (He.ba (He.ba (He.ba (He.ba (He.ba (He.ba (He.ba (He.ba (He.ba (He.ba (He.ba (He.ba (He.ba (He.ba (He.ba (He.ba (He.ba (He.ba (He.ba (He.ba (He.ba (He.ba (He.ba (He.ba (He.ba (He.ba (He.ba (He.ba cx).1).1).1).1).1).1).1).1).1).1).1).1).1).1).1).1).1).1).1).1).1).1).1).1).1).1).1).1).1).1).2)
    kx_Lack_NoUnit := of_decide_eq_true ((He.ba (He.ba (He.ba (He.ba (He.ba (He.ba (He.ba (He.ba (He.ba (He.ba (He.ba (He.ba (He.ba (He.ba (He.ba (He.ba (He.ba (He.ba (He.ba (He.ba (He.ba (He.ba (He.ba (He.ba (He.ba (He.ba (He.ba (He.ba (He.ba (He.ba cx).1).1).1).1).1).1).1).1).1).1).1).1).1).1).1).1).1).1).1).1).1).1).1).1).1).1).1).1).1).2)
    kx_Lack_NoShelf := of_decide_eq_true ((He.ba (He.ba (He.ba (He.ba (He.ba (He.ba (He.ba (He.ba (He.ba (He.ba (He.ba (He.ba (He.ba (He.ba (He.ba (He.ba (He.ba (He.ba (He.ba (He.ba (He.ba (He.ba (He.ba (He.ba (He.ba (He.ba (He.ba (He.ba (He.ba cx).1).1).1).1).1).1).1).1).1).1).1).1).1).1).1).1).1).1).1).1).1).1).1).1).1).1).1).1).2)
    kx_Lack_UnitError := of_decide_eq_true ((He.ba (He.ba (He.ba (He.ba (He.ba (He.ba (He.ba (He.ba (He.ba (He.ba (He.ba (He.ba (He.ba (He.ba (He.ba (He.ba (He.ba (He.ba (He.ba (He.ba (He.ba (He.ba (He.ba (He.ba (He.ba (He.ba (He.ba (He.ba cx).1).1).1).1).1).1).1).1).1).1).1).1).1).1).1).1).1).1).1).1).1).1).1).1).1).1).1).2)
    kx_Lack_ValueError := of_decide_eq_true ((He.ba (He.ba (He.ba (He.ba (He.ba (He.ba (He.ba (He.ba (He.ba (He.ba (He.ba (He.ba (He.ba (He.ba (He.ba (He.ba (He.ba (He.ba (He.ba (He.ba (He.ba (He.ba (He.ba (He.ba (He.ba (He.ba (He.ba cx).1).1).1).1).1).1).1).1).1).1).1).1).1).1).1).1).1).1).1).1).1).1).1).1).1).1).2)
    ox_Clash := UX.ownB_ok (UE.BaseM.exc PySem.F.excBase_ValueError) PySem.F.store_ValueError ((He.ba (He.ba (He.ba (He.ba (He.ba (He.ba (He.ba (He.ba (He.ba (He.ba (He.ba (He.ba (He.ba (He.ba (He.ba (He.ba (He.ba (He.ba (He.ba (He.ba (He.ba (He.ba (He.ba (He.ba (He.ba (He.ba cx).1).1).1).1).1).1).1).1).1).1).1).1).1).1).1).1).1).1).1).1).1).1).1).1).1).2)
    ax_Clash := UX.asksB_ok ((He.ba (He.ba (He.ba (He.ba (He.ba (He.ba (He.ba (He.ba (He.ba (He.ba (He.ba (He.ba (He.ba (He.ba (He.ba (He.ba (He.ba (He.ba (He.ba (He.ba (He.ba (He.ba (He.ba (He.ba (He.ba cx).1).1).1).1).1).1).1).1).1).1).1).1).1).1).1).1).1).1).1).1).1).1).1).1).2)
    oa_Clash_name := of_decide_eq_true ((He.ba (He.ba (He.ba (He.ba (He.ba (He.ba (He.ba (He.ba (He.ba (He.ba (He.ba (He.ba (He.ba (He.ba (He.ba (He.ba (He.ba (He.ba (He.ba (He.ba (He.ba (He.ba (He.ba (He.ba cx).1).1).1).1).1).1).1).1).1).1).1).1).1).1).1).1).1).1).1).1).1).1).1).2)
    kx_Clash_Lack := of_decide_eq_true ((He.ba (He.ba (He.ba (He.ba (He.ba (He.ba (He.ba (He.ba (He.ba (He.ba (He.ba (He.ba (He.ba (He.ba (He.ba (He.ba (He.ba (He.ba (He.ba (He.ba (He.ba (He.ba (He.ba cx).1).1).1).1).1).1).1).1).1).1).1).1).1).1).1).1).1).1).1).1).1).1).2)
    kx_Clash_Clash := of_decide_eq_true ((He.ba (He.ba (He.ba (He.ba (He.ba (He.ba (He.ba (He.ba (He.ba (He.ba (He.ba (He.ba (He.ba (He.ba (He.ba (He.ba (He.ba (He.ba (He.ba (He.ba (He.ba (He.ba cx).1).1).1).1).1).1).1).1).1).1).1).1).1).1).1).1).1).1).1).1).1).2)
    kx_Clash_Knot := of_decide_eq_true ((He.ba (He.ba (He.ba (He.ba (He.ba (He.ba (He.ba (He.ba (He.ba (He.ba (He.ba (He.ba (He.ba (He.ba (He.ba (He.ba (He.ba (He.ba (He.ba (He.ba (He.ba cx).1).1).1).1).1).1).1).1).1).1).1).1).1).1).1).1).1).1).1).1).2)
    kx_Clash_NoUnit := of_decide_eq_true ((He.ba (He.ba (He.ba (He.ba (He.ba (He.ba (He.ba (He.ba (He.ba (He.ba (He.ba (He.ba (He.ba (He.ba (He.ba (He.ba (He.ba (He.ba (He.ba (He.ba cx).1).1).1).1).1).1).1).1).1).1).1).1).1).1).1).1).1).1).1).2)
    kx_Clash_NoShelf := of_decide_eq_true ((He.ba (He.ba (He.ba (He.ba (He.ba (He.ba (He.ba (He.ba (He.ba (He.ba (He.ba (He.ba (He.ba (He.ba (He.ba (He.ba (He.ba (He.ba (He.ba cx).1).1).1).1).1).1).1).1).1).1).1).1).1).1).1).1).1).1).2)
    kx_Clash_UnitError := of_decide_eq_true ((He.ba (He.ba (He.ba (He.ba (He.ba (He.ba (He.ba (He.ba (He.ba (He.ba (He.ba (He.ba (He.ba (He.ba (He.ba (He.ba (He.ba (He.ba cx).1).1).1).1).1).1).1).1).1).1).1).1).1).1).1).1).1).2)
    kx_Clash_ValueError := of_decide_eq_true ((He.ba (He.ba (He.ba (He.ba (He.ba (He.ba (He.ba (He.ba (He.ba (He.ba (He.ba (He.ba (He.ba (He.ba (He.ba (He.ba (He.ba cx).1).1).1).1).1).1).1).1).1).1).1).1).1).1).1).1).2)
    ox_Knot := UX.ownB_ok (UE.BaseM.exc PySem.F.excBase_ValueError) PySem.F.store_ValueError ((He.ba (He.ba (He.ba (He.ba (He.ba (He.ba (He.ba (He.ba (He.ba (He.ba (He.ba (He.ba (He.ba (He.ba (He.ba (He.ba cx).1).1).1).1).1).1).1).1).1).1).1).1).1).1).1).2)
    ax_Knot := UX.asksB_ok ((He.ba (He.ba (He.ba (He.ba (He.ba (He.ba (He.ba (He.ba (He.ba (He.ba (He.ba (He.ba (He.ba (He.ba (He.ba cx).1).1).1).1).1).1).1).1).1).1).1).1).1).1).2)
    oa_Knot_ring := of_decide_eq_true ((He.ba (He.ba (He.ba (He.ba (He.ba (He.ba (He.ba (He.ba (He.ba (He.ba (He.ba (He.ba (He.ba (He.ba cx).1).1).1).1).1).1).1).1).1).1).1).1).1).2)
    kx_Knot_Lack := of_decide_eq_true ((He.ba (He.ba (He.ba (He.ba (He.ba (He.ba (He.ba (He.ba (He.ba (He.ba (He.ba (He.ba (He.ba cx).1).1).1).1).1).1).1).1).1).1).1).1).2)
    kx_Knot_Clash := of_decide_eq_true ((He.ba (He.ba (He.ba (He.ba (He.ba (He.ba (He.ba (He.ba (He.ba (He.ba (He.ba (He.ba cx).1).1).1).1).1).1).1).1).1).1).1).2)
    kx_Knot_Knot := of_decide_eq_true ((He.ba (He.ba (He.ba (He.ba (He.ba (He.ba (He.ba (He.ba (He.ba (He.ba (He.ba cx).1).1).1).1).1).1).1).1).1).1).2)
    kx_Knot_NoUnit := of_decide_eq_true ((He.ba (He.ba (He.ba (He.ba (He.ba (He.ba (He.ba (He.ba (He.ba (He.ba cx).1).1).1).1).1).1).1).1).1).2)
    kx_Knot_NoShelf := of_decide_eq_true ((He.ba (He.ba (He.ba (He.ba (He.ba (He.ba (He.ba (He.ba (He.ba cx).1).1).1).1).1).1).1).1).2)
    kx_Knot_UnitError := of_decide_eq_true ((He.ba (He.ba (He.ba (He.ba (He.ba (He.ba (He.ba (He.ba cx).1).1).1).1).1).1).1).2)
    kx_Knot_ValueError := of_decide_eq_true ((He.ba (He.ba (He.ba (He.ba (He.ba (He.ba (He.ba cx).1).1).1).1).1).1).2)
    vi_ValueError := UX.viB_ok ((He.ba (He.ba (He.ba (He.ba (He.ba (He.ba cx).1).1).1).1).1).2)
    bi_UnitError := UX.baseB_ok ((He.ba (He.ba (He.ba (He.ba (He.ba cx).1).1).1).1).2)
    em_Lack_Lack := of_decide_eq_true ((He.ba (He.ba (He.ba (He.ba cx).1).1).1).2)
    em_Lack_UnitError := of_decide_eq_true ((He.ba (He.ba (He.ba cx).1).1).2)
    em_Clash_UnitError := of_decide_eq_true ((He.ba (He.ba cx).1).2)
    em_Knot_UnitError := of_decide_eq_true ((He.ba cx).2)
    kb_Stand_init_1_wished_up_later_back := kb_Stand_init_1_wished_up_later_back_mk F12
    kb_Rule_init_1_first_times_top_burst_span := kb_Rule_init_1_first_times_top_burst_span_mk F28
    kb_Unit_init_2_kind_needs_wants_bars_after_opens_rule := kb_Unit_init_2_kind_needs_wants_bars_after_opens_rule_mk F36
    kb_plan_on_0_stand_name_shelf := kb_plan_on_0_stand_name_shelf_mk F26 }
  have e := hfa.symm.trans T.m_law
  cases e
  have b := FunD.bindsA (ps := ["_law_script"]) T.F_law fun _ _ _ _ _ _ us hl => match us, hl with | [_], _ => rfl
  exact ⟨T.d_law, fun s v => b s [v] rfl, fun base _ _ => ok_law T⟩
end K29
open PySem PySem.W PySem.Calls PyProof.Rows
set_option maxRecDepth 100000 in
set_option maxHeartbeats 0 in
theorem PySem.Challenge.cw_unitwants_k29_causes_holds : PySem.Challenge.rw_unitwants_k29_causes.Holds := by
  w_on; o_law
  refine HandSHeadRun.head_any (r := OpenLaw.row PySem.Challenge.rw_unitwants_k29_causes) (q := view (OpenLaw.row PySem.Challenge.rw_unitwants_k29_causes).prog [72]) (H := K29.hk) (ob := K29.ob) (M := 8000) (loose := K29.lo) (d := HandSHeadRun.topDef (OpenLaw.row PySem.Challenge.rw_unitwants_k29_causes).prog 72) (kwd := []) K29.ob_eq
    (by kernel_rfl) (fun s => by kernel_rfl) K29.run (by kernel_rfl) (by kernel_rfl) (by kernel_rfl) (by rfl) (by first | assumption | decide +kernel) (by decide +kernel) ⟨rfl, rfl, rfl, rfl, rfl, by decide +kernel⟩ ?hw ?hc
  case hw => w_witness2
  case hc =>
    refine L2.walk_ofE (l := PySem.Challenge.rw_unitwants_k29_causes) (n := 63) (k := 13) (x := "_law_script") (CX := L2.CX0) rfl (by decide) (by kernel_rfl) ⟨rfl, by decide, by decide⟩ ?F (fun _ _ _ _ z => z)
    intro w mg fa h Y G hmg0
    obtain ⟨K, KX, c, cx⟩ := Y
    have hmg : mg ("law" : PySem.Str) = some (.ref fa) := by
      have e : (HandSHeadRun.topDef (OpenLaw.row PySem.Challenge.rw_unitwants_k29_causes).prog 72).name = ("law" : PySem.Str) := by kernel_rfl
      rw [← e]
      exact hmg0
    obtain ⟨fd, hb, hF⟩ := K29.facts (P := (PySem.Challenge.rw_unitwants_k29_causes).prog) (w := w) KX G hmg c cx
    exact ⟨K, fd, K29.sp_law K, KX, hb, fun H a ns hl _ hS => ⟨a, ns, rfl, hS, hl, fun _ => rfl⟩, hF⟩
