import PyProof.Rows.All
import Wide.All
import OpenK.AllK
import Wide.FinOn
import KE.KStateDown
import HandS.ForMost
import HandS.More
import HandS.WordsExc
import HandS.Defaults
import HandS.MakeKwOnly
import HandS.IsInst
import HandS.FStr
import HandS.Walk
import HandS.TupAny
import HandS.SortKw
import HandS.OwnEq
import KE.KFmtOwn
import KE.DataMinMax
import KE.DatumOrd
import KE.SortData
import HandS.Deep
import HandS.SetKeys
import HandS.DictComp
import HandS.Conv
import HandS.Style
import HandS.Evl
import HandS.Head0
import HandS.Head1
import HandS.Head2
import HandS.HeadEnd
import HandS.HeadHook1
import HandS.HeadHook2
import PySem.Challenge.RW_unitwants_k16_clashes
set_option Elab.async false
set_option linter.all false
set_option maxRecDepth 100000
set_option maxHeartbeats 4000000
/-! own layer: heaps, rules that lacked, the bag of draws -/
namespace UW
open PySem PySem.Spec PyProof.Rows L2

/-! ### heaps -/
theorem same_upd {H : Hp} {p : Addr} {o : HO} (h : H p = none) : Same H (upd H p o) := fun b x e => by
  rw [upd_ne (ne_of_none e h)]
  exact e
theorem new_at {H H2 : Hp} {p : Addr} {o : HO} (e : upd H p o = H2) : H2 p = some o := by
  rw [← e]
  exact upd_same
theorem new_same {H H2 : Hp} {p : Addr} {o : HO} (e : upd H p o = H2) (h : H p = none) : Same H H2 := by
  rw [← e]
  exact same_upd h
/-- all but p is as it was -/
def Kp (p : Addr) (H H' : Hp) : Prop := ∀ c o, H c = some o → c ≠ p → H' c = some o
theorem Kp.refl (p : Addr) (H : Hp) : Kp p H H := fun _ _ h _ => h
theorem Kp.trans {p : Addr} {H H1 H2 : Hp} (a : Kp p H H1) (b : Kp p H1 H2) : Kp p H H2 := fun c o h n => b c o (a c o h n) n
theorem Kp.of {p : Addr} {H H' : Hp} (s : Same H H') : Kp p H H' := fun c o h _ => s c o h
theorem Kp.same {p : Addr} {H H1 H2 : Hp} (a : Kp p H H1) (b : Same H1 H2) : Kp p H H2 := a.trans (.of b)
theorem mut_keep {H H2 : Hp} {p : Addr} {o : HO} (e : upd H p o = H2) : Kp p H H2 := fun c x h n => by
  rw [← e, upd_ne n]
  exact h
/-- an object that H did not know has changed -/
theorem Kp.own {p q : Addr} {H H1 H2 : Hp} (a : Kp p H H1) (b : Kp q H1 H2) (n : H q = none) : Kp p H H2 := fun c o h m => b c o (a c o h m) (ne_of_none h n)
theorem Same.own {q : Addr} {H H1 H2 : Hp} (a : Same H H1) (b : Kp q H1 H2) (n : H q = none) : Same H H2 := fun c o h => b c o (a c o h) (ne_of_none h n)
theorem Kp.free {p q : Addr} {H H' : Hp} (a : Kp p H H') (h : H' q = none) (n : q ≠ p) : H q = none := by
  cases e : H q with
  | none => rfl
  | some o =>
    rw [a q o e n] at h
    cases h
theorem Kp.seq {K : PySem.W.Frag} {p a : Addr} {H H' : Hp} {xs : List V} (k : Kp p H H') (n : a ≠ p) (h : SqL K H a xs) : SqL K H' a xs := by
  rcases h with (h | ⟨o, h⟩) | h
  · exact .inl (.inl (k _ _ h n))
  · exact .inl (.inr ⟨o, k _ _ h n⟩)
  · exact .inr h
theorem ne_some {H : Hp} {a b : Addr} {o : HO} (h : H a = some o) (n : H b = none) : a ≠ b := fun e => by
  rw [e, n] at h
  cases h

/-! ### rules that lacked -/
section
variable {X : Cx}
def CPowL (i j : Int) : Prop := 0 ≤ j ∧ j ≤ 100 ∧ i.natAbs < 2 ^ 1000
theorem op_powL : OpR X (binaryOp .Pow) (rI CPowL fun i j => .int (i ^ j.toNat)) := opI fun i j _ _ _ _ _ hc q => by
  obtain ⟨h1, h2, h3⟩ := hc
  have b := intBits_le h3
  refine pow_int h1 ?_ q
  have b' : (Builtin.Int.intBits i : Int) ≤ 1000 := by exact_mod_cast b
  have b0 : (0 : Int) ≤ (Builtin.Int.intBits i : Int) := Int.natCast_nonneg _
  have := Int.mul_le_mul b' h2 h1 (by decide)
  exact Int.le_trans this (by decide)
def ipC (C : Int → Int → Prop) (f : Int → Int → Int) : TIp := fun x y H Q => ∃ i j, x = .int i ∧ y = .int j ∧ C i j ∧ Q (.int (f i j)) H
theorem ip_mul : PIp X .Mult (ipC CMul fun i j => i * j) := by
  intro pins s σ H x y v u Q I r1 r2 h
  obtain ⟨i, j, e1, e2, hc, q⟩ := h
  subst e1; subst e2
  obtain ⟨t, rfl⟩ := r1
  obtain ⟨t', rfl⟩ := r2
  exact imul_int ⟨.int _, H, I.tok _, ⟨_, rfl⟩, q⟩ hc.ok
theorem vals_take {vs : List V} {us : List Value} (h : Vals vs us) : ∀ n, Vals (vs.take n) (us.take n) := by
  induction h with
  | nil => intro n; rw [List.take_nil, List.take_nil]; exact .nil
  | cons r _ ih =>
    intro n
    cases n with
    | zero => exact .nil
    | succ n => exact .cons r (ih n)
/-- f(k = v, ..) -/
theorem pe_callN0 {CX : CXT} {k : Nat} {f : Addr} {fd : FuncData} {ps ks : List Str} {sp : Sp} {E : XK} {x : Str} {p pos : Pos} {kws : List Keyword} {tk : TA} {g : List Value → List Value → List Value} {gV : List V → List V → List V}
    (F : FnOk X.prog X.w X.K X.mg X.base CX k f fd ps sp) (hr : Room k X.A) (hg : Gl X x) (hm : X.mg x = some (.ref f)) (hk : PySem.W.keepIn X.K (.ref f) = true) (hb : KBn X.K fd ps 0 ks g gV) (hx : Passes CX X E) (hkw : PK X kws tk)
    (hall : (backToKw pos (keywordEach kws X.env)).all (·.1.isSome) = true := by rfl) (hks : (backToKw pos (keywordEach kws X.env)).filterMap (·.1) = ks := by rfl) (hdb : (x == ("__debug__" : Str)) = false := by decide)
    (hpl : ((backTo pos (starEach [] X.env)).any (·.1) || (backToKw pos (keywordEach kws X.env)).any (·.1.isNone)) = false := by rfl) :
    PE X (.Call (.Name x p) [] kws pos) (tCallN 0 ks.length sp gV E tNil tk) := by
  refine ⟨fun pins s σ H Q I h => ?_⟩
  refine wpAny_Call_Name_kw (ld_glob I hg hm ?_ hdb)
  refine PySem.W.callWith_KW0 (h₀ := X.base) I.ok.mod.kin hk hall ?_ hpl
  refine thn (hkw.run pos pins s σ H _ I h) fun ws s2 ⟨zs, H2, I2, rz, l1, l2, q2⟩ => ⟨I2.kIn, ?_⟩
  rw [hks]
  exact run_fnN (us := []) (vs := []) F hr hb hx I2 .nil rz rfl l2 q2
end

/-! ### the bag of draws -/
structure Bag (n : Nat) (H : Hp) (p : Addr) : Prop where
  ex : ∃ a b c : Int, H p = some (.lst [.int a, .int b, .int c]) ∧ 0 ≤ a ∧ 0 ≤ b ∧ b < 2 ^ 64 ∧ 0 ≤ c ∧ c ≤ n
theorem Bag.le {n m : Nat} {H : Hp} {p : Addr} (b : Bag n H p) (h : n ≤ m) : Bag m H p := by
  obtain ⟨a, x, c, h1, h2, h3, h4, h5, h6⟩ := b.ex
  exact ⟨a, x, c, h1, h2, h3, h4, h5, by omega⟩
theorem Bag.same {n : Nat} {H H' : Hp} {p : Addr} (b : Bag n H p) (s : Same H H') : Bag n H' p := by
  obtain ⟨a, x, c, h1, h⟩ := b.ex
  exact ⟨a, x, c, s _ _ h1, h⟩
theorem Bag.keep {n : Nat} {H H' : Hp} {p q : Addr} (b : Bag n H p) (s : Kp q H H') (ne : p ≠ q) : Bag n H' p := by
  obtain ⟨a, x, c, h1, h⟩ := b.ex
  exact ⟨a, x, c, s _ _ h1 ne, h⟩
theorem Bag.ne {n : Nat} {H : Hp} {p q : Addr} (b : Bag n H p) (h : H q = none) : p ≠ q := by
  obtain ⟨a, x, c, h1, _⟩ := b.ex
  exact ne_some h1 h
theorem Bag.some {n : Nat} {H : Hp} {p : Addr} (b : Bag n H p) : ∃ o, H p = some o := by
  obtain ⟨a, x, c, h1, _⟩ := b.ex
  exact ⟨_, h1⟩
/-- the five numbers of a rule within their bounds -/
structure Five (f m t b s : Int) : Prop where
  f1 : 1 ≤ f
  f2 : f ≤ 1000
  m1 : 1 ≤ m
  m2 : m ≤ 10
  t1 : 1 ≤ t
  t2 : t ≤ 1000000
  b1 : 0 ≤ b
  b2 : b ≤ 20
  s1 : 0 ≤ s
  s2 : s ≤ 1000000
end UW
namespace UW
open PySem L2
/-- for i, x in enumerate(xs), both names plain -/
theorem for_enum2 {K : PySem.W.Frag} {a : Addr} {xs : List V} {i j : Nat} {tb : TS} {D : Ends} {σ : St} {H : Hp} (Pv : Nat → St → Hp → Prop) (h0 : Pv 0 σ H) (hl : ∀ k σ H, k ≤ xs.length → Pv k σ H → SqL K H a xs)
    (hs : ∀ k x σ H H2, xs[k]? = some x → Pv k σ H → Same H H2 → tb { D with nx := Pv (k + 1), ct := Pv (k + 1), bk := D.nx } ((σ.set i (some (.int (k : Nat)))).set j (some x)) H2) (hd : ∀ σ H, Pv xs.length σ H → D.nx σ H) :
    ∃ W : Nat → Nat → St → Hp → Prop, (∃ m, W 0 m σ H) ∧ ∀ k m σ H, W k m σ H →
      ((Ite K a).stop k H ∧ D.nx σ H) ∨ ((Ite K a).go k H ∧ ∃ N : St → Hp → Prop, (∀ σ' H', N σ' H' → ∃ m', m' < m ∧ W (k + 1) m' σ' H') ∧ ∀ x H', (Ite K a).yld k H x H' → gTup K 2 (gCons (gName i) (gCons (gName j) gNil)) x σ H' fun σ2 H2 => tb { D with nx := N, ct := N, bk := D.nx } σ2 H2) := by
  refine for_it walk_enum Pv h0 hl (fun k v σ H H' hk p y => ?_) hd
  obtain ⟨T, x, y, rfl, nT, rfl, e1, e2⟩ := y
  cases e1
  exact ⟨T, _, rfl, .inl (.inl upd_same), rfl, _, _, rfl, _, _, rfl, rfl, hs k y σ H _ e2 p (same_upd nT)⟩
/-- one item of a short list by its place -/
theorem at0 {α : Type} {a : α} {r : List α} : atI (a :: r) 0 = some a := atI_nat (j := 0) rfl
theorem at1 {α : Type} {a b : α} {r : List α} : atI (a :: b :: r) 1 = some b := atI_nat (j := 1) rfl
theorem at2 {α : Type} {a b c : α} {r : List α} : atI (a :: b :: c :: r) 2 = some c := atI_nat (j := 2) rfl
theorem at3 {α : Type} {a b c d : α} {r : List α} : atI (a :: b :: c :: d :: r) 3 = some d := atI_nat (j := 3) rfl
theorem at4 {α : Type} {a b c d e : α} {r : List α} : atI (a :: b :: c :: d :: e :: r) 4 = some e := atI_nat (j := 4) rfl
end UW
namespace UW
open PySem L2
theorem bag_made {H : Hp} {p : Addr} {c k : Int} {b : Bool} (h0 : 0 ≤ k) (h1 : k ≤ 1000) : Bag 0 (upd H p (.lst [.int ((if c < 0 then -c else c) * (if b = true then 1 else 0)), .int (c % (10 ^ (18 : Int).toNat + 9) + 1299709 * k), .int 0])) p := by
  refine ⟨_, _, _, upd_same, ?_, ?_, ?_, Int.le_refl _, Int.le_refl _⟩
  · have : (0 : Int) ≤ if c < 0 then -c else c := by split <;> omega
    cases b
    · simp
    · simpa using this
  · have e : (10 ^ (18 : Int).toNat + 9 : Int) = 1000000000000000009 := by decide
    rw [e]
    omega
  · have e : (10 ^ (18 : Int).toNat + 9 : Int) = 1000000000000000009 := by decide
    rw [e]
    omega
end UW
namespace UW
open PySem L2
theorem cmul_b {i : Int} {b : Bool} : CMul i (if b = true then 1 else 0) := by
  cases b
  · exact .inr ⟨by decide, by decide⟩
  · exact .inr ⟨by decide, by decide⟩
theorem pow10 {j : Int} (h0 : 0 ≤ j := by decide) (h1 : j ≤ 100 := by decide) : CPowL 10 j :=
  ⟨h0, h1, Nat.lt_of_lt_of_le (show (10 : Int).natAbs < 2 ^ 4 by decide) (Nat.pow_le_pow_right (by decide) (by decide))⟩
/-- the primes of a draw -/
abbrev primes : List V := [.int 2147483647, .int 2147483629, .int 2147483587, .int 2147483579, .int 2147483563, .int 2147483549, .int 2147483543, .int 2147483497]
theorem prime_at (c : Int) : ∃ p : Int, atI primes (c % 8) = some (.int p) ∧ 0 < p ∧ p < 2147483648 := by
  have h0 : 0 ≤ c % 8 := Int.emod_nonneg _ (by decide)
  have h1 : c % 8 < 8 := Int.emod_lt_of_pos _ (by decide)
  generalize c % 8 = d at h0 h1
  obtain ⟨k, rfl⟩ := Int.eq_ofNat_of_zero_le h0
  have hk : k < 8 := by omega
  match k, hk with
  | 0, _ => exact ⟨_, atI_nat (j := 0) rfl, by decide, by decide⟩
  | 1, _ => exact ⟨_, atI_nat (j := 1) rfl, by decide, by decide⟩
  | 2, _ => exact ⟨_, atI_nat (j := 2) rfl, by decide, by decide⟩
  | 3, _ => exact ⟨_, atI_nat (j := 3) rfl, by decide, by decide⟩
  | 4, _ => exact ⟨_, atI_nat (j := 4) rfl, by decide, by decide⟩
  | 5, _ => exact ⟨_, atI_nat (j := 5) rfl, by decide, by decide⟩
  | 6, _ => exact ⟨_, atI_nat (j := 6) rfl, by decide, by decide⟩
  | 7, _ => exact ⟨_, atI_nat (j := 7) rfl, by decide, by decide⟩
theorem basis_small {b c : Int} (h0 : 0 ≤ b) (h1 : b < 2 ^ 64) (h2 : 0 ≤ c) (h3 : c < 2000000000) : (b * (2 * c + 1) + 7919 * c * c + 29).natAbs < 2 ^ 1000 := by
  have e1 : b * (2 * c + 1) ≤ 2 ^ 64 * (2 * 2000000000 + 1) := Int.mul_le_mul (by omega) (by omega) (by omega) (by decide)
  have e2 : 7919 * c * c ≤ 7919 * 2000000000 * 2000000000 := Int.mul_le_mul (by omega) (by omega) h2 (by decide)
  have e3 : 0 ≤ b * (2 * c + 1) := Int.mul_nonneg h0 (by omega)
  have e4 : 0 ≤ 7919 * c * c := Int.mul_nonneg (by omega) h2
  refine Nat.lt_of_lt_of_le (m := 2 ^ 200) ?_ (Nat.pow_le_pow_right (by decide) (by decide))
  have e5 : b * (2 * c + 1) + 7919 * c * c + 29 < 2 ^ 200 := by
    have : (2 ^ 64 * (2 * 2000000000 + 1) + 7919 * 2000000000 * 2000000000 + 29 : Int) < 2 ^ 200 := by decide
    omega
  omega
end UW
namespace UW
open PySem L2
/-- a draw: a number from 0 to below a size; the bag alone has changed -/
@[irreducible] def spTake : Sp := fun vs H Q _ => ∃ (p : Addr) (z : Int) (n : Nat), vs = [.ref p, .int z] ∧ Bag n H p ∧ 0 < z ∧ z < 1073741824 ∧ n < 1000000000 ∧
  ∀ (r : Int) H', 0 ≤ r → r < z → Bag (n + 1) H' p → Kp p H H' → Q (.int r) H'
theorem take_of {H : Hp} {p : Addr} {n : Nat} {z : Int} {Q : VK} {E : XK} (B : Bag n H p) (h0 : 0 < z) (h1 : z < 1073741824) (hn : n < 1000000000)
    (q : ∀ (r : Int) H', 0 ≤ r → r < z → Bag (n + 1) H' p → Kp p H H' → Q (.int r) H') : spTake [.ref p, .int z] H Q E := by
  unfold spTake
  exact ⟨p, z, n, rfl, B, h0, h1, hn, q⟩
theorem take_un {vs : List V} {H : Hp} {Q : VK} {E : XK} (h : spTake vs H Q E) : ∃ (p : Addr) (z : Int) (n : Nat), vs = [.ref p, .int z] ∧ Bag n H p ∧ 0 < z ∧ z < 1073741824 ∧ n < 1000000000 ∧
    ∀ (r : Int) H', 0 ≤ r → r < z → Bag (n + 1) H' p → Kp p H H' → Q (.int r) H' := by
  unfold spTake at h
  exact h
/-- take(bag, [z1, ..][take(bag, k)]), the menu just laid at l -/
theorem take_menu {K : PySem.W.Frag} {H : Hp} {p l : Addr} {n : Nat} {zs : List Int} {k : Int} {Q : VK} {E E' : XK} (B : Bag n H p) (hn : n < 900000000) (hl : H l = none) (hk : k = (zs.length : Int)) (hz0 : 0 < zs.length) (hz1 : zs.length < 1000) (hz : ∀ z ∈ zs, 0 < z ∧ z < 1073741824)
    (q : ∀ (z r : Int) H', z ∈ zs → 0 ≤ r → r < z → Bag (n + 2) H' p → Kp p H H' → Q (.int r) H') :
    spTake [.ref p, .int k] (upd H l (.lst (zs.map V.int))) (fun v H2 => rIxL K (.ref l) v H2 fun w H3 => spTake [.ref p, w] H3 Q E) E' := by
  subst hk
  generalize hE : upd H l _ = H1
  have k1 := new_at hE
  have s1 := new_same hE hl
  have npl := B.ne hl
  refine take_of (B.same s1) (by omega) (by omega) (by omega) fun r H2 r0 r1 B2 kp2 => ?_
  obtain ⟨j, rfl⟩ := Int.eq_ofNat_of_zero_le r0
  have hj : j < zs.length := by omega
  have hm : zs[j] ∈ zs := List.getElem_mem hj
  refine ⟨l, _, _, .int zs[j], rfl, rfl, SqL.of (kp2 _ _ k1 npl.symm), atI_nat (by rw [List.getElem?_map, List.getElem?_eq_getElem hj]; rfl), ?_⟩
  refine take_of B2 (hz _ hm).1 (hz _ hm).2 (by omega) fun r2 H3 q0 q1 B3 kp3 => ?_
  exact q _ r2 H3 hm q0 q1 B3 ((Kp.of s1).trans (kp2.trans kp3))
end UW
namespace UW
open PySem L2
section
variable {X : Cx}
/-- a statement, then the rest, with a word between -/
def tMid (t u : TS) : TS := fun D σ H => ∃ M : L2.St → Hp → Prop, t { D with nx := M } σ H ∧ ∀ σ' H', M σ' H' → u D σ' H'
theorem pss_mid {st : Stmt} {rest : List Stmt} {t u : TS} (h1 : PS X st t) (h2 : PSs X rest u) : PSs X (st :: rest) (tMid t u) := by
  refine ⟨fun pins s σ H D I h => ?_⟩
  obtain ⟨M, hm, hu⟩ := h
  refine wpAny_execs_cons (thn (h1.run pins s σ H { D with nx := M } I hm) fun f s1 q => ?_)
  cases f with
  | next =>
    obtain ⟨σ', H', I', q⟩ := q
    exact h2.run pins s1 σ' H' D I' (hu σ' H' q)
  | ret v => exact q
  | brk => exact q
  | cont => exact q
/-- an expression with a word behind it -/
def tMidE (t : TE) : TE := fun σ H Q => ∃ M : VK, t σ H M ∧ ∀ v H', M v H' → Q v H'
theorem pe_mid {e : Expr} {t : TE} (h : PE X e t) : PE X e (tMidE t) := by
  refine ⟨fun pins s σ H Q I ⟨M, hm, hq⟩ => ?_⟩
  exact thn (h.run pins s σ H M I hm) fun u s1 ⟨v, H', I', r, q⟩ => ⟨v, H', I', r, hq v H' q⟩
def tMidT (t : TT) : TT := fun σ H Q => ∃ M : Bool → Hp → Prop, t σ H M ∧ ∀ b H', M b H' → Q b H'
theorem pt_mid {e : Expr} {t : TT} (h : PT X e t) : PT X e (tMidT t) := by
  refine ⟨fun pins s σ H Q I ⟨M, hm, hq⟩ => ?_⟩
  exact thn (h.run pins s σ H M I hm) fun b s1 ⟨H', I', q⟩ => ⟨H', I', hq b H' q⟩
end
end UW
namespace UW
theorem iteY {c A B : Prop} [Decidable c] (hc : c) (h : A) : if c then A else B := by
  rw [if_pos hc]
  exact h
theorem iteN {c A B : Prop} [Decidable c] (hc : ¬ c) (h : B) : if c then A else B := by
  rw [if_neg hc]
  exact h
theorem iteYd {c A B : Prop} [Decidable c] (hc : c) (h : A) : if decide c = true then A else B := iteY (decide_eq_true hc) h
theorem iteNd {c A B : Prop} [Decidable c] (hc : ¬ c) (h : B) : if decide c = true then A else B := iteN (fun z => hc (of_decide_eq_true z)) h
end UW
namespace UW
open PySem L2
/-- None, truths, ints -/
def flatN : V → Bool
  | .non => true
  | .bl _ => true
  | .int _ => true
  | _ => false
def flatD : V → PyData
  | .non => .none
  | .bl b => .bool b
  | .int i => .int i
  | _ => .none
theorem dp_flat {K : PySem.W.Frag} {H : Hp} {v : V} (h : flatN v = true) : Dp K H v (flatD v) := by
  cases v with
  | non => exact .non
  | bl b => exact .bl b
  | int i => exact .int i
  | _ => cases h
theorem dpAll_flat {K : PySem.W.Frag} {H : Hp} : ∀ {xs : List V}, (∀ v ∈ xs, flatN v = true) → DpAll K H xs (xs.map flatD)
  | [], _ => .nil
  | v :: vs, h => .cons (dp_flat (h v (List.mem_cons_self ..))) (dpAll_flat fun x hx => h x (List.mem_cons_of_mem _ hx))
theorem lay_flat (v : V) : PyData.canLay0 (flatD v) = true ∧ PyData.depth (flatD v) = 0 := by
  cases v <;> exact ⟨by simp only [flatD, PyData.canLay0], by simp only [flatD, PyData.depth]⟩
theorem layAll_flat : ∀ xs : List V, PyData.canLayAll0 (xs.map flatD) = true ∧ PyData.depthAll (xs.map flatD) = 0
  | [] => ⟨by simp only [List.map_nil, PyData.canLayAll0], by simp only [List.map_nil, PyData.depthAll]⟩
  | v :: vs => by
    obtain ⟨a, b⟩ := lay_flat v
    obtain ⟨c, d⟩ := layAll_flat vs
    rw [List.map_cons]
    exact ⟨by simp only [PyData.canLayAll0, a, c, Bool.and_self], by simp only [PyData.depthAll, b, d, Nat.max_self]⟩
theorem shaped_flat (xs : List V) : SeqAt.shaped (.list (xs.map flatD)) = true := by
  obtain ⟨c, d⟩ := layAll_flat xs
  unfold SeqAt.shaped
  simp only [PyData.canLay0, PyData.depth, c, d]
  decide
theorem neD_same {K : PySem.W.Frag} {H : Hp} {a b : Addr} {xs : List V} {Q : VK} (h1 : SqL K H a xs) (h2 : SqL K H b xs) (hf : ∀ v ∈ xs, flatN v = true) (q : Q (.bl false) H) : rNeD K (.ref a) (.ref b) H Q := by
  refine ⟨_, _, .lst h1 (dpAll_flat hf), .lst h2 (dpAll_flat hf), shaped_flat xs, shaped_flat xs, ?_⟩
  have e : PyData.eqv (.list (xs.map flatD)) (.list (xs.map flatD)) = true := SeqAt.eqv_refl _ (by simp only [PyData.canLay0]; exact (layAll_flat xs).1)
  rw [e]
  exact q
end UW
namespace UW
open PySem L2
theorem yes_of {σ : L2.St} {H : Hp} {Q : Bool → Hp → Prop} (h : Q true H) : tYes σ H Q := h
end UW
namespace UW
open PySem L2
/-- max(xs, default=d) of ints: some int -/
def rMaxD (K : PySem.W.Frag) : List V → List V → Hp → VK → Prop := fun vs zs H Q => ∃ (a : Addr) (ns : List Int) (d : Int), vs = [.ref a] ∧ zs = [.int d] ∧ SqL K H a (ns.map V.int) ∧ ∀ m : Int, Q (.int m) H
theorem ints_flatD (ns : List Int) : (ns.map V.int).map flatD = ns.map PyData.int := by
  rw [List.map_map]
  rfl
theorem cr_maxD {X : Cx} (hc : X.calm = true) (hu : X.A.units + 64 < cLine) : CallRK X (.builtin "max") [Str.ofString "default"] (rMaxD X.K) := by
  intro pins s σ H vs zs us ws Q I r rz h
  obtain ⟨a, ns, d, rfl, rfl, hs, q⟩ := h
  obtain ⟨its, rv, hl, _⟩ := I.list hs
  rw [Vals.ref1 r]
  obtain ⟨w1, rfl, t1, rfl⟩ := vals1 rz
  obtain ⟨as, hr⟩ := Dp.readsAll I ((ns.map V.int).map flatD) _ _ (dpAll_flat (K := X.K) (H := H) (xs := ns.map V.int) fun v hv => by
    obtain ⟨i, _, rfl⟩ := List.mem_map.mp hv
    rfl) rv
  have hd := (layAll_flat (ns.map V.int)).2
  refine PySem.W.max_list_default (I.ok.hd hc) hl.isList (vs := its.toArray) hr ⟨?_, ?_⟩ (by rw [hd]; omega) (fun _ h' tk hk => ⟨.int d, H, I.kept hk, ⟨_, rfl⟩, q d⟩) fun y ys i v h' tk bs _ hi _ hk => ?_
  · rw [ints_flatD]
    intro x hx y hy
    obtain ⟨i, _, rfl⟩ := List.mem_map.mp hx
    obtain ⟨j, _, rfl⟩ := List.mem_map.mp hy
    simp only [PySem.W.alike]
  · rw [ints_flatD]
    intro x hx
    obtain ⟨i, _, rfl⟩ := List.mem_map.mp hx
    intro z
    cases z
  · have hv : ∃ n t, v = .int n t := by
      have hi' : its[i]? = some v := by rw [← List.getElem?_toArray]; exact hi
      have : ∀ (vs : List V) (us : List Value) (i : Nat) (v : Value), Vals vs us → us[i]? = some v → ∃ x, vs[i]? = some x ∧ RelV x v := by
        intro vs us i v r
        induction r generalizing i with
        | nil => intro h; simp at h
        | cons r1 _ ih =>
          intro h
          cases i with
          | zero => cases h; exact ⟨_, rfl, r1⟩
          | succ i => exact ih i h
      obtain ⟨x, hx, rx⟩ := this _ _ _ _ rv hi'
      rw [List.getElem?_map] at hx
      cases e : ns[i]? with
      | none => rw [e] at hx; cases hx
      | some n =>
        rw [e] at hx
        cases hx
        obtain ⟨t, rfl⟩ := rx
        exact ⟨n, t, rfl⟩
    obtain ⟨n, t, rfl⟩ := hv
    exact ⟨.int n, H, I.kept hk, ⟨_, rfl⟩, q n⟩
end UW
namespace UW
open PySem L2
theorem ints_flat' (ts : List Int) : ∀ v ∈ ts.map V.int, flatN v = true := fun v hv => by
  obtain ⟨i, _, rfl⟩ := List.mem_map.mp hv
  rfl
theorem eqvAll_len : ∀ xs ys : List PyData, xs.length ≠ ys.length → PyData.eqvAll xs ys = false
  | [], [], h => absurd rfl h
  | [], _ :: _, _ => by simp only [PyData.eqvAll]
  | _ :: _, [], _ => by simp only [PyData.eqvAll]
  | x :: xs, y :: ys, h => by
    simp only [PyData.eqvAll]
    rw [eqvAll_len xs ys (fun e => h (by rw [List.length_cons, List.length_cons, e])), Bool.and_false]
theorem neD_diff {K : PySem.W.Frag} {H : Hp} {a b : Addr} {xs ys : List V} {Q : VK} (h1 : SqL K H a xs) (h2 : SqL K H b ys) (hf : ∀ v ∈ xs, flatN v = true) (hg : ∀ v ∈ ys, flatN v = true) (hl : xs.length ≠ ys.length) (q : Q (.bl true) H) : rNeD K (.ref a) (.ref b) H Q := by
  refine ⟨_, _, .lst h1 (dpAll_flat hf), .lst h2 (dpAll_flat hg), shaped_flat xs, shaped_flat ys, ?_⟩
  have e : PyData.eqv (.list (xs.map flatD)) (.list (ys.map flatD)) = false := by
    simp only [PyData.eqv]
    exact eqvAll_len _ _ (by rw [List.length_map, List.length_map]; exact hl)
  rw [e]
  exact q
theorem eqD_same {K : PySem.W.Frag} {H : Hp} {a b : Addr} {xs : List V} {Q : VK} (h1 : SqL K H a xs) (h2 : SqL K H b xs) (hf : ∀ v ∈ xs, flatN v = true) (q : Q (.bl true) H) : rEqD K (.ref a) (.ref b) H Q := by
  refine ⟨_, _, .lst h1 (dpAll_flat hf), .lst h2 (dpAll_flat hf), shaped_flat xs, shaped_flat xs, ?_⟩
  have e : PyData.eqv (.list (xs.map flatD)) (.list (xs.map flatD)) = true := SeqAt.eqv_refl _ (by simp only [PyData.canLay0]; exact (layAll_flat xs).1)
  rw [e]
  exact q
end UW
namespace UW
open PySem L2
theorem slA {K : PySem.W.Frag} {H : Hp} {a : Addr} {xs : List V} {lo hi : Option Int} {Q : VK} (h : SqT K H a xs) (q : ∀ p H', Same H H' → SqT K H' p (cutV xs lo hi) → Q (.ref p) H') : rSlA K (.ref a) lo hi H Q := by
  refine ⟨a, xs, rfl, h, fun e => ?_, fun _ p np => ?_⟩
  · refine q a H (Same.refl H) ?_
    have : cutV xs lo hi = xs := by
      unfold cutV
      rw [e.1, e.2, List.drop_zero, Nat.sub_zero, List.take_length]
    rw [this]
    exact h
  · exact q p _ (same_upd np) (SqT.of upd_same)
theorem catA {K : PySem.W.Frag} {H : Hp} {a b : Addr} {xs ys : List V} {Q : VK} (h : SqT K H a xs) (h2 : SqT K H b ys) (hl : xs.length + ys.length ≤ 1000) (q : ∀ p H', Same H H' → SqT K H' p (xs ++ ys) → Q (.ref p) H') : rCatA K (.ref a) (.ref b) H Q := by
  refine ⟨a, b, xs, ys, rfl, rfl, h, h2, Nat.le_trans hl (by decide), fun e => ?_, fun _ e => ?_, fun _ _ p np => ?_⟩
  · exact q b H (Same.refl H) (by rw [e]; exact h2)
  · exact q a H (Same.refl H) (by rw [e, List.append_nil]; exact h)
  · exact q p _ (same_upd np) (SqT.of upd_same)
end UW
namespace UW
open PySem L2
/-! ### names -/
/-- one to eight letters -/
def Nm (x : Str) : Prop := (∀ c ∈ x.cps.toList, 97 ≤ c ∧ c ≤ 122) ∧ 0 < x.length ∧ x.length ≤ 8
abbrev lettersS : Str := Str.ofString "abcdefghijklmnopqrstuvwxyz"
abbrev srettelS : Str := Str.ofString "zyxwvutsrqponmlkjihgfedcba"
theorem letters_tl : lettersS.cps.toList = (List.range 26).map (97 + ·) := by decide +kernel
theorem srettel_tl : srettelS.cps.toList = (List.range 26).map (122 - ·) := by decide +kernel
theorem letters_size : lettersS.cps.size = 26 := by decide +kernel
theorem srettel_size : srettelS.cps.size = 26 := by decide +kernel
theorem len_tl' (x : Str) : x.length = x.cps.toList.length := TL.len_tl x
theorem tl_app (x y : Str) : (x ++ y).cps.toList = x.cps.toList ++ y.cps.toList := TL.tl_append x y
theorem str_ext {x y : Str} (h : x.cps.toList = y.cps.toList) : x = y := TL.ext_tl h
theorem letter_at {r : Int} (h0 : 0 ≤ r) (h1 : r < 26) : ∃ c, atI lettersS.cps.toList r = some c ∧ 97 ≤ c ∧ c ≤ 122 := by
  obtain ⟨j, rfl⟩ := Int.eq_ofNat_of_zero_le h0
  have hj : j < 26 := by omega
  refine ⟨97 + j, atI_nat ?_, by omega, by omega⟩
  rw [letters_tl, List.getElem?_map, List.getElem?_range hj]
  rfl
theorem letters_get {i c : Nat} (h : lettersS.cps[i]? = some c) : i < 26 ∧ c = 97 + i := by
  rw [← Array.getElem?_toList, letters_tl, List.getElem?_map] at h
  by_cases hi : i < 26
  · rw [List.getElem?_range hi] at h
    exact ⟨hi, (Option.some.inj h).symm⟩
  · rw [List.getElem?_eq_none (by rw [List.length_range]; omega)] at h
    cases h
theorem srettel_get {i c : Nat} (h : srettelS.cps[i]? = some c) : i < 26 ∧ c = 122 - i := by
  rw [← Array.getElem?_toList, srettel_tl, List.getElem?_map] at h
  by_cases hi : i < 26
  · rw [List.getElem?_range hi] at h
    exact ⟨hi, (Option.some.inj h).symm⟩
  · rw [List.getElem?_eq_none (by rw [List.length_range]; omega)] at h
    cases h
theorem inV_str (w : Str) : ∀ xs : List Str, inV (.str w) (xs.map V.str) = decide (w ∈ xs)
  | [] => rfl
  | x :: xs => by
    have ih := inV_str w xs
    unfold inV at ih ⊢
    rw [List.map_cons, List.any_cons, ih]
    show (x == w || decide (w ∈ xs)) = decide (w ∈ x :: xs)
    by_cases h : x = w
    · subst h
      rw [beq_self_eq_true, Bool.true_or, decide_eq_true (List.mem_cons_self ..)]
    · rw [show (x == w) = false from beq_eq_false_iff_ne.mpr h, Bool.false_or]
      exact decide_eq_decide.mpr ⟨fun z => List.mem_cons_of_mem _ z, fun z => by
        rcases List.mem_cons.mp z with z | z
        · exact absurd z.symm h
        · exact z⟩
theorem strs_flat (xs : List Str) : (xs.map V.str).all flatV = true := by
  rw [List.all_eq_true]
  intro v hv
  obtain ⟨x, _, rfl⟩ := List.mem_map.mp hv
  rfl
theorem nodup_le {α : Type} [DecidableEq α] : ∀ (cs ds : List α), cs.Nodup → (∀ c ∈ cs, c ∈ ds) → cs.length ≤ ds.length
  | [], _, _, _ => Nat.zero_le _
  | c :: cs, ds, hn, h => by
    obtain ⟨h1, h2⟩ := List.nodup_cons.mp hn
    have hm := h c (List.mem_cons_self ..)
    have ih := nodup_le cs (ds.erase c) h2 fun x hx => by
      have hne : x ≠ c := fun e => h1 (e ▸ hx)
      exact (List.mem_erase_of_ne hne).mpr (h x (List.mem_cons_of_mem _ hx))
    rw [List.length_erase_of_mem hm] at ih
    have := List.length_pos_of_mem hm
    rw [List.length_cons]
    omega
theorem free_in {α : Type} [DecidableEq α] {cs ds : List α} (hn : cs.Nodup) (h : ds.length < cs.length) : ∃ c ∈ cs, c ∉ ds := by
  by_cases q : ∃ c ∈ cs, c ∉ ds
  · exact q
  · have := nodup_le cs ds hn fun c hc => by
      by_cases hd : c ∈ ds
      · exact hd
      · exact absurd ⟨c, hc, hd⟩ q
    omega
/-- the text without its first sign -/
abbrev tailS (w : Str) : Str := cutS w (some 1) none
theorem tailS_tl (w : Str) : (tailS w).cps.toList = w.cps.toList.drop 1 := by
  show (List.take _ _ : List Nat) = _
  rw [show HT.sIx w.length 0 (some 1) = min 1 w.length from HT.sIx_nat w.length 0 1, HT.sIx_none]
  have hl := len_tl' w
  rw [hl]
  by_cases h : 1 ≤ w.cps.toList.length
  · rw [Nat.min_eq_left h, List.take_of_length_le (by rw [List.length_drop]; exact Nat.le_refl _)]
  · rw [Nat.min_eq_right (by omega), Nat.sub_self, List.take_zero, List.drop_of_length_le (by omega)]
theorem sign_app_tl (c : Nat) (x : Str) : ((⟨#[c]⟩ : Str) ++ x).cps.toList = c :: x.cps.toList := by
  rw [tl_app]
  rfl
/-- the 26 texts with another first letter -/
def cands (x : Str) : List Str := (List.range 26).map fun i => (⟨#[97 + i]⟩ : Str) ++ x
theorem cands_nodup (x : Str) : (cands x).Nodup := by
  unfold cands
  rw [List.nodup_iff_pairwise_ne, List.pairwise_map]
  refine List.Pairwise.imp ?_ List.nodup_range
  intro i j hij e
  have := congrArg (fun z : Str => z.cps.toList) e
  rw [show ((⟨#[97 + i]⟩ : Str) ++ x).cps.toList = (97 + i) :: x.cps.toList from sign_app_tl _ _, show ((⟨#[97 + j]⟩ : Str) ++ x).cps.toList = (97 + j) :: x.cps.toList from sign_app_tl _ _] at this
  injection this with h1 _
  omega
theorem cand_nm {w : Str} (h : Nm w) {i : Nat} (hi : i < 26) : Nm ((⟨#[97 + i]⟩ : Str) ++ tailS w) := by
  obtain ⟨h1, h2, h3⟩ := h
  have e := sign_app_tl (97 + i) (tailS w)
  have hl : ((⟨#[97 + i]⟩ : Str) ++ tailS w).length = w.length := by
    rw [len_tl', e, tailS_tl, List.length_cons, List.length_drop, ← len_tl']
    omega
  refine ⟨fun c hc => ?_, by omega, by omega⟩
  rw [e, tailS_tl] at hc
  rcases List.mem_cons.mp hc with rfl | hc
  · omega
  · exact h1 c (List.mem_of_mem_drop hc)
theorem join_one {ys : List Str} (h : ∀ y ∈ ys, ∃ c, y = ⟨#[c]⟩ ∧ 97 ≤ c ∧ c ≤ 122) (h0 : 0 < ys.length) (h8 : ys.length ≤ 8) : Nm (Txt.join (Str.ofString "") ys) := by
  have key : ∀ ys : List Str, (∀ y ∈ ys, ∃ c, y = ⟨#[c]⟩ ∧ 97 ≤ c ∧ c ≤ 122) → (Str.join (Str.ofString "") ys).cps.toList.length = ys.length ∧ ∀ c ∈ (Str.join (Str.ofString "") ys).cps.toList, 97 ≤ c ∧ c ≤ 122 := by
    intro ys
    induction ys with
    | nil => exact fun _ => ⟨rfl, fun c hc => by cases hc⟩
    | cons y ys ih =>
      intro h
      obtain ⟨c, rfl, h1, h2⟩ := h y (List.mem_cons_self ..)
      cases ys with
      | nil =>
        refine ⟨rfl, fun d hd => ?_⟩
        have hd' : d ∈ [c] := hd
        rw [List.mem_singleton.mp hd']
        exact ⟨h1, h2⟩
      | cons z zs =>
        obtain ⟨i1, i2⟩ := ih fun y hy => h y (List.mem_cons_of_mem _ hy)
        have e : (Str.join (Str.ofString "") (⟨#[c]⟩ :: z :: zs)).cps.toList = c :: (Str.join (Str.ofString "") (z :: zs)).cps.toList := by
          show ((⟨#[c]⟩ : Str) ++ Str.ofString "" ++ Str.join (Str.ofString "") (z :: zs)).cps.toList = _
          rw [tl_app, tl_app]
          rfl
        rw [e]
        refine ⟨by rw [List.length_cons, i1]; rfl, fun d hd => ?_⟩
        rcases List.mem_cons.mp hd with rfl | hd
        · exact ⟨h1, h2⟩
        · exact i2 d hd
  obtain ⟨k1, k2⟩ := key ys h
  rw [TL.join_eq]
  exact ⟨k2, by rw [len_tl', k1]; exact h0, by rw [len_tl', k1]; exact h8⟩
end UW
namespace UW
theorem range_map_succ' {α : Type} (g : Nat → α) (n : Nat) : (List.range (n + 1)).map g = (List.range n).map g ++ [g n] := by
  rw [List.range_succ, List.map_append]
  rfl
end UW
namespace UW
open PySem L2
/-! ### lists and tuples of texts compared -/
theorem Nm.ok {x : Str} (h : Nm x) : PyData.strOk x = true := by
  unfold PyData.strOk
  rw [Array.all_eq_true']
  intro c hc
  have := (h.1 c (Array.mem_toList_iff.mpr hc)).2
  exact decide_eq_true (by omega)
theorem dpAll_strs {K : PySem.W.Frag} {H : Hp} : ∀ xs : List Str, DpAll K H (xs.map V.str) (xs.map PyData.str)
  | [] => .nil
  | x :: xs => .cons (.str x) (dpAll_strs xs)
theorem layAll_strs : ∀ {xs : List Str}, (∀ x ∈ xs, PyData.strOk x = true) → PyData.canLayAll0 (xs.map PyData.str) = true ∧ PyData.depthAll (xs.map PyData.str) = 0
  | [], _ => ⟨by simp only [List.map_nil, PyData.canLayAll0], by simp only [List.map_nil, PyData.depthAll]⟩
  | x :: xs, h => by
    obtain ⟨c, d⟩ := layAll_strs fun y hy => h y (List.mem_cons_of_mem _ hy)
    rw [List.map_cons]
    exact ⟨by simp only [PyData.canLayAll0, PyData.canLay0, h x (List.mem_cons_self ..), c, Bool.and_self], by simp only [PyData.depthAll, PyData.depth, d, Nat.max_self]⟩
theorem shaped_strs {xs : List Str} (h : ∀ x ∈ xs, PyData.strOk x = true) : SeqAt.shaped (.list (xs.map PyData.str)) = true := by
  obtain ⟨c, d⟩ := layAll_strs h
  unfold SeqAt.shaped
  simp only [PyData.canLay0, PyData.depth, c, d]
  decide
theorem eqvAll_strs : ∀ xs ys : List Str, PyData.eqvAll (xs.map PyData.str) (ys.map PyData.str) = decide (xs = ys)
  | [], [] => by simp only [List.map_nil, PyData.eqvAll]; rfl
  | [], y :: ys => by simp only [List.map_nil, List.map_cons, PyData.eqvAll]; rfl
  | x :: xs, [] => by simp only [List.map_nil, List.map_cons, PyData.eqvAll]; rfl
  | x :: xs, y :: ys => by
    simp only [List.map_cons, PyData.eqvAll, PyData.eqv]
    rw [eqvAll_strs xs ys]
    by_cases h : x = y
    · subst h
      rw [beq_self_eq_true, Bool.true_and]
      exact decide_eq_decide.mpr ⟨fun e => by rw [e], fun e => by injection e⟩
    · rw [show (x == y) = false from beq_eq_false_iff_ne.mpr h, Bool.false_and]
      exact (decide_eq_false fun e => h (by injection e)).symm
/-- xs != ys of texts -/
theorem neD_strs {K : PySem.W.Frag} {H : Hp} {a b : Addr} {xs ys : List Str} {Q : VK} (h1 : SqL K H a (xs.map V.str)) (h2 : SqL K H b (ys.map V.str)) (hx : ∀ x ∈ xs, PyData.strOk x = true) (hy : ∀ y ∈ ys, PyData.strOk y = true) (q : Q (.bl (!decide (xs = ys))) H) : rNeD K (.ref a) (.ref b) H Q := by
  refine ⟨_, _, .lst h1 (dpAll_strs xs), .lst h2 (dpAll_strs ys), shaped_strs hx, shaped_strs hy, ?_⟩
  have e : PyData.eqv (.list (xs.map PyData.str)) (.list (ys.map PyData.str)) = decide (xs = ys) := by
    simp only [PyData.eqv]
    exact eqvAll_strs xs ys
  rw [e]
  exact q
theorem seq_ix {r : Int} {n : Nat} (h0 : 0 ≤ r) (h1 : r < n) : seqIndex? r n = some r.toNat := (ixN_seq (by
  unfold ixN
  rw [if_pos h0, if_pos h1])).1
end UW
namespace UW
theorem perm_pick {α : Type} : ∀ (ls : List α) (k : Nat) (h : k < ls.length), (ls[k] :: ls.eraseIdx k).Perm ls
  | [], _, h => absurd h (Nat.not_lt_zero _)
  | x :: xs, 0, _ => List.Perm.refl _
  | x :: xs, k + 1, h => by
    have hk : k < xs.length := by simpa using h
    have ih := perm_pick xs k hk
    show (xs[k] :: x :: xs.eraseIdx k).Perm (x :: xs)
    exact (List.Perm.swap _ _ _).trans (List.Perm.cons x ih)
theorem map_pick {α β : Type} (f : α → β) : ∀ (ls : List α) (k : Nat), (ls.map f).eraseIdx k = (ls.eraseIdx k).map f
  | [], _ => rfl
  | x :: xs, 0 => rfl
  | x :: xs, k + 1 => by
    show f x :: (xs.map f).eraseIdx k = f x :: (xs.eraseIdx k).map f
    rw [map_pick f xs k]
end UW
namespace UW
open PySem L2
theorem cutV_to {xs : List V} {n : Nat} : cutV xs none (some (n : Int)) = xs.take n := by
  unfold cutV
  rw [show HT.sIx xs.length xs.length (some (n : Int)) = min n xs.length from HT.sIx_nat xs.length xs.length n, HT.sIx_none]
  show (xs.drop 0).take (min n xs.length - 0) = xs.take n
  rw [List.drop_zero, Nat.sub_zero]
  by_cases h : n ≤ xs.length
  · rw [Nat.min_eq_left h]
  · rw [Nat.min_eq_right (by omega), List.take_length, List.take_of_length_le (by omega)]
theorem menu_ix {zs : List Int} {r : Int} (h0 : 0 ≤ r) (h1 : r < zs.length) : ∃ z, z ∈ zs ∧ atI (zs.map V.int) r = some (.int z) := by
  obtain ⟨j, rfl⟩ := Int.eq_ofNat_of_zero_le h0
  have hj : j < zs.length := by omega
  exact ⟨zs[j], List.getElem_mem hj, atI_nat (by rw [List.getElem?_map, List.getElem?_eq_getElem hj]; rfl)⟩
theorem menu_str {zs : List Str} {r : Int} (h0 : 0 ≤ r) (h1 : r < zs.length) : ∃ z, z ∈ zs ∧ atI (zs.map V.str) r = some (.str z) := by
  obtain ⟨j, rfl⟩ := Int.eq_ofNat_of_zero_le h0
  have hj : j < zs.length := by omega
  exact ⟨zs[j], List.getElem_mem hj, atI_nat (by rw [List.getElem?_map, List.getElem?_eq_getElem hj]; rfl)⟩
/-! ### facts of units -/
/-- what a unit is made of -/
structure UF where
  kind : Str
  needs : List Str
  wants : List Str
  bars : List Str
  after : List Str
  opens : Option Str
  five : Option (Int × Int × Int × Int × Int)
deriving DecidableEq
def UF.named (u : UF) : List Str := u.needs ++ u.wants ++ u.bars ++ u.after ++ u.opens.toList
def optV : Option Str → V
  | none => .non
  | some x => .str x
def FiveAt (H : Hp) : V → Option (Int × Int × Int × Int × Int) → Prop
  | v, none => v = .non
  | v, some (f, m, t, b, s) => ∃ p, v = .ref p ∧ H p = some (.tup [.int f, .int m, .int t, .int b, .int s]) ∧ Five f m t b s
/-- the seven facts stand in a tuple -/
def FactAt (H : Hp) (v : V) (u : UF) : Prop := ∃ (t n w b a : Addr) (g : V), v = .ref t ∧ H t = some (.tup [.str u.kind, .ref n, .ref w, .ref b, .ref a, optV u.opens, g]) ∧
  H n = some (.tup (u.needs.map V.str)) ∧ H w = some (.tup (u.wants.map V.str)) ∧ H b = some (.tup (u.bars.map V.str)) ∧ H a = some (.tup (u.after.map V.str)) ∧ FiveAt H g u.five
def NotTup (H : Hp) (q : Addr) : Prop := ∀ xs, H q ≠ some (.tup xs)
theorem NotTup.ne {H : Hp} {q c : Addr} {xs : List V} (h : NotTup H q) (e : H c = some (.tup xs)) : c ≠ q := fun z => h xs (z ▸ e)
theorem NotTup.lst {H : Hp} {q : Addr} {xs : List V} (h : H q = some (.lst xs)) : NotTup H q := fun ys e => by rw [h] at e; cases e
theorem NotTup.dK {H : Hp} {q : Addr} {kvs : List (Key × V)} (h : H q = some (.dK kvs)) : NotTup H q := fun ys e => by rw [h] at e; cases e
theorem NotTup.none {H : Hp} {q : Addr} (h : H q = Option.none) : NotTup H q := fun ys e => by rw [h] at e; cases e
theorem Bag.notTup {n : Nat} {H : Hp} {p : Addr} (b : Bag n H p) : NotTup H p := by
  obtain ⟨_, _, _, h, _⟩ := b.ex
  exact .lst h
theorem FiveAt.keep {H H' : Hp} {q : Addr} {v : V} {o : Option (Int × Int × Int × Int × Int)} (h : FiveAt H v o) (k : Kp q H H') (n : NotTup H q) : FiveAt H' v o := by
  cases o with
  | none => exact h
  | some o =>
    obtain ⟨f, m, t, b, s⟩ := o
    obtain ⟨p, e, hp, F⟩ := h
    exact ⟨p, e, k _ _ hp (n.ne hp), F⟩
theorem FactAt.keep {H H' : Hp} {q : Addr} {v : V} {u : UF} (h : FactAt H v u) (k : Kp q H H') (n : NotTup H q) : FactAt H' v u := by
  obtain ⟨t, a1, a2, a3, a4, g, e, h0, h1, h2, h3, h4, h5⟩ := h
  exact ⟨t, a1, a2, a3, a4, g, e, k _ _ h0 (n.ne h0), k _ _ h1 (n.ne h1), k _ _ h2 (n.ne h2), k _ _ h3 (n.ne h3), k _ _ h4 (n.ne h4), h5.keep k n⟩
theorem FiveAt.same {H H' : Hp} {v : V} {o : Option (Int × Int × Int × Int × Int)} (h : FiveAt H v o) (s : Same H H') : FiveAt H' v o := by
  cases o with
  | none => exact h
  | some o =>
    obtain ⟨f, m, t, b, s'⟩ := o
    obtain ⟨p, e, hp, F⟩ := h
    exact ⟨p, e, s _ _ hp, F⟩
theorem FactAt.same {H H' : Hp} {v : V} {u : UF} (h : FactAt H v u) (s : Same H H') : FactAt H' v u := by
  obtain ⟨t, a1, a2, a3, a4, g, e, h0, h1, h2, h3, h4, h5⟩ := h
  exact ⟨t, a1, a2, a3, a4, g, e, s _ _ h0, s _ _ h1, s _ _ h2, s _ _ h3, s _ _ h4, h5.same s⟩
/-- a dict of facts by names -/
inductive FactsAt (H : Hp) : List (Key × V) → List (Str × UF) → Prop
  | nil : FactsAt H [] []
  | snoc {kvs : List (Key × V)} {us : List (Str × UF)} {w : Str} {v : V} {u : UF} (h : FactsAt H kvs us) (e : FactAt H v u) : FactsAt H (kvs ++ [(Sum.inr w, v)]) (us ++ [(w, u)])
theorem FactsAt.keep {H H' : Hp} {q : Addr} {kvs : List (Key × V)} {us : List (Str × UF)} (h : FactsAt H kvs us) (k : Kp q H H') (n : NotTup H q) : FactsAt H' kvs us := by
  induction h with
  | nil => exact .nil
  | snoc _ e ih => exact .snoc ih (e.keep k n)
theorem FactsAt.same {H H' : Hp} {kvs : List (Key × V)} {us : List (Str × UF)} (h : FactsAt H kvs us) (s : Same H H') : FactsAt H' kvs us := by
  induction h with
  | nil => exact .nil
  | snoc _ e ih => exact .snoc ih (e.same s)
theorem FactsAt.len {H : Hp} {kvs : List (Key × V)} {us : List (Str × UF)} (h : FactsAt H kvs us) : kvs.length = us.length := by
  induction h with
  | nil => rfl
  | snoc _ _ ih => rw [List.length_append, List.length_append, ih]; rfl
theorem FactsAt.keys {H : Hp} {kvs : List (Key × V)} {us : List (Str × UF)} (h : FactsAt H kvs us) : kvs.map (·.1) = us.map fun p => (Sum.inr p.1 : Key) := by
  induction h with
  | nil => rfl
  | snoc _ _ ih => rw [List.map_append, List.map_append, ih]; rfl
theorem FactsAt.free {H : Hp} {kvs : List (Key × V)} {us : List (Str × UF)} (h : FactsAt H kvs us) {w : Str} (hw : w ∉ us.map (·.1)) : valV kvs (Sum.inr w : Key) = none := by
  induction h with
  | nil => rfl
  | @snoc kvs us w' v u h e ih =>
    rw [List.map_append] at hw
    have h1 : w ∉ us.map (·.1) := fun z => hw (List.mem_append_left _ z)
    have h2 : w ≠ w' := fun z => hw (List.mem_append_right _ (List.mem_singleton.mpr z))
    have q1 := ih h1
    have hv : ∀ kvs : List (Key × V), valV kvs (Sum.inr w : Key) = none → valV (kvs ++ [((Sum.inr w' : Key), v)]) (Sum.inr w : Key) = none := by
      intro kvs
      induction kvs with
      | nil => exact fun _ => valV_neg (fun z => h2 (by cases z; rfl))
      | cons p r ih =>
        intro hn
        by_cases hp : p.1 = (Sum.inr w : Key)
        · rw [valV_pos hp] at hn
          cases hn
        · rw [valV_neg hp] at hn
          rw [List.cons_append, valV_neg hp]
          exact ih hn
    exact hv kvs q1
theorem FactsAt.get {H : Hp} {kvs : List (Key × V)} {us : List (Str × UF)} (h : FactsAt H kvs us) (hn : (us.map (·.1)).Nodup) : ∀ p ∈ us, ∃ v, valV kvs (Sum.inr p.1 : Key) = some v ∧ FactAt H v p.2 := by
  induction h with
  | nil => intro p hp; cases hp
  | @snoc kvs us w v u h e ih =>
    intro p hp
    rw [List.map_append] at hn
    obtain ⟨n1, _, n3⟩ := List.nodup_append.mp hn
    have hw : w ∉ us.map (·.1) := fun z => n3 w z w (List.mem_singleton.mpr rfl) rfl
    have hf := h.free hw
    rw [valV_snoc _ _ _ _ hf]
    rcases List.mem_append.mp hp with hp1 | hp
    · obtain ⟨v', hv', ha⟩ := ih n1 p hp1
      have hne : ¬ (Sum.inr p.1 : Key) = Sum.inr w := fun z => hw (by cases z; exact List.mem_map.mpr ⟨p, hp1, rfl⟩)
      exact ⟨v', by rw [if_neg hne]; exact hv', ha⟩
    · have e' := List.mem_singleton.mp hp
      subst e'
      exact ⟨v, by rw [if_pos rfl], e⟩
/-- what a drawn unit is -/
structure UOk (ns ss : List Str) (w : Str) (u : UF) : Prop where
  kd : u.kind = Str.ofString "work" ∨ u.kind = Str.ofString "goal" ∨ u.kind = Str.ofString "door"
  nN : u.needs.Nodup
  nW : u.wants.Nodup
  nB : u.bars.Nodup
  nA : u.after.Nodup
  lN : u.needs.length ≤ 8
  lW : u.wants.length ≤ 8
  lB : u.bars.length ≤ 8
  lA : u.after.length ≤ 8
  mem : ∀ x ∈ u.named, (x ∈ ns ∨ x ∈ ss) ∧ x ≠ w
  op1 : u.kind = Str.ofString "door" → u.opens ≠ none
  op2 : u.kind ≠ Str.ofString "door" → u.opens = none
end UW

namespace UW
open PySem L2
theorem cutV_bit (ss : List Str) (b : Bool) : ∃ m : Nat, cutV (ss.map V.str) none (some (if b = true then 1 else 0)) = (ss.take m).map V.str := by
  cases b
  · exact ⟨0, by rw [List.map_take]; exact cutV_to (n := 0)⟩
  · exact ⟨1, by rw [List.map_take]; exact cutV_to (n := 1)⟩
theorem cutV_strs (ss : List Str) (n : Nat) : cutV (ss.map V.str) none (some (n : Int)) = (ss.take n).map V.str := by
  rw [List.map_take]
  exact cutV_to
def rcands (x : Str) : List Str := (List.range 26).map fun i => (⟨#[122 - i]⟩ : Str) ++ x
theorem rcands_nodup (x : Str) : (rcands x).Nodup := by
  unfold rcands
  rw [List.nodup_iff_pairwise_ne, List.pairwise_map]
  refine List.Pairwise.imp_of_mem ?_ List.pairwise_lt_range
  intro a b ha hb hab e
  have ha := List.mem_range.mp ha
  have hb := List.mem_range.mp hb
  have h := congrArg (fun z : Str => z.cps.toList) e
  simp only [sign_app_tl] at h
  injection h with h _
  omega
theorem rcand_nm {i : Nat} (hi : i < 26) : Nm ((⟨#[122 - i]⟩ : Str) ++ Str.ofString "zz") := by
  have e : ((⟨#[122 - i]⟩ : Str) ++ Str.ofString "zz").cps.toList = (122 - i) :: [122, 122] := by
    rw [sign_app_tl]
    have : (Str.ofString "zz").cps.toList = [122, 122] := by decide +kernel
    rw [this]
  refine ⟨fun c hc => ?_, ?_, ?_⟩
  · rw [e] at hc
    rcases List.mem_cons.mp hc with rfl | hc
    · omega
    · rcases List.mem_cons.mp hc with rfl | hc
      · omega
      · rw [List.mem_singleton.mp hc]
        omega
  · rw [len_tl', e]
    exact Nat.zero_lt_succ _
  · rw [len_tl', e]
    show 3 ≤ 8
    omega
theorem filter_free {α : Type} [DecidableEq α] {cs ds : List α} (hn : cs.Nodup) (h : ds.length < cs.length) : 0 < (cs.filter fun x => decide (x ∉ ds)).length := by
  obtain ⟨c, hc, hd⟩ := free_in hn h
  exact List.length_pos_of_mem (List.mem_filter.mpr ⟨hc, decide_eq_true hd⟩)
theorem take_filter_snoc {α : Type} (f : α → Bool) {xs : List α} {i : Nat} {x : α} (h : xs[i]? = some x) : (xs.take (i + 1)).filter f = (xs.take i).filter f ++ (if f x = true then [x] else []) := by
  rw [List.take_add_one, h, List.filter_append]
  show _ ++ List.filter f [x] = _
  cases hf : f x
  · rw [List.filter_cons_of_neg (by rw [hf]; exact Bool.false_ne_true), if_neg Bool.false_ne_true]
    rfl
  · rw [List.filter_cons_of_pos hf, if_pos rfl]
    rfl
theorem map_str_get {xs : List Str} {i : Nat} {x : V} (h : (xs.map V.str)[i]? = some x) : ∃ w, xs[i]? = some w ∧ x = .str w := by
  rw [List.getElem?_map] at h
  cases hx : xs[i]? with
  | none => rw [hx] at h; cases h
  | some w => rw [hx] at h; exact ⟨w, rfl, by injection h with h; exact h.symm⟩
end UW

namespace UW
open PySem L2
/-- [z1, ..][take(bag, k)], the menu just laid at l -/
theorem pick_menu {K : PySem.W.Frag} {H : Hp} {p l : Addr} {n : Nat} (zs : List V) {k : Int} {Q : VK} {E' : XK} (B : Bag n H p) (hn : n < 900000000) (hl : H l = none) (hk : k = (zs.length : Int)) (hz0 : 0 < zs.length) (hz1 : zs.length < 1000)
    (q : ∀ (z : V) H', z ∈ zs → Bag (n + 1) H' p → Kp p H H' → Q z H') :
    spTake [.ref p, .int k] (upd H l (.lst zs)) (fun v H2 => rIxL K (.ref l) v H2 Q) E' := by
  subst hk
  generalize hE : upd H l _ = H1
  have k1 := new_at hE
  have s1 := new_same hE hl
  have npl := B.ne hl
  refine take_of (B.same s1) (by omega) (by omega) (by omega) fun r H2 r0 r1 B2 kp2 => ?_
  obtain ⟨j, rfl⟩ := Int.eq_ofNat_of_zero_le r0
  have hj : j < zs.length := by omega
  refine ⟨l, _, _, zs[j], rfl, rfl, SqL.of (kp2 _ _ k1 npl.symm), atI_nat (List.getElem?_eq_getElem hj), ?_⟩
  exact q _ H2 (List.getElem_mem hj) B2 ((Kp.of s1).trans kp2)
theorem mix_ok {ns ss zs : List Str} {w : Str} (hn : ns.Nodup) (hs : ss.Nodup) (hm : ∀ x ∈ ns, Nm x) (ht : ∀ x ∈ ss, Nm x ∧ x ∉ ns) (h1 : ns.length ≤ 20) (h2 : ss.length ≤ 2) (hw : w ∈ ns) (hz : zs.Sublist ss) :
    ((ns.filter fun x => decide (x ≠ w)) ++ zs).Nodup ∧ ((ns.filter fun x => decide (x ≠ w)) ++ zs).length ≤ 100 ∧ (∀ x ∈ (ns.filter fun x => decide (x ≠ w)) ++ zs, Nm x) ∧ ∀ x ∈ (ns.filter fun x => decide (x ≠ w)) ++ zs, (x ∈ ns ∨ x ∈ ss) ∧ x ≠ w := by
  have key : ∀ x ∈ (ns.filter fun x => decide (x ≠ w)) ++ zs, Nm x ∧ (x ∈ ns ∨ x ∈ ss) ∧ x ≠ w := fun x hx => by
    rcases List.mem_append.mp hx with hx | hx
    · obtain ⟨a, b⟩ := List.mem_filter.mp hx
      exact ⟨hm x a, .inl a, of_decide_eq_true b⟩
    · have hx' := hz.subset hx
      exact ⟨(ht x hx').1, .inr hx', fun e => (ht x hx').2 (e ▸ hw)⟩
  refine ⟨List.nodup_append.mpr ⟨List.Nodup.sublist List.filter_sublist hn, List.Nodup.sublist hz hs, fun a ha b hb e => ?_⟩, ?_, fun x hx => (key x hx).1, fun x hx => (key x hx).2⟩
  · exact (ht b (hz.subset hb)).2 (e ▸ (List.mem_filter.mp ha).1)
  · rw [List.length_append]
    have := hz.length_le
    have := List.length_filter_le (fun x => decide (x ≠ w)) ns
    omega
end UW

namespace UW
open PySem L2
theorem tup_same {K : PySem.W.Frag} {H H' : Hp} {a : Addr} {xs : List V} (e : Same H H') (h : SqT K H a xs) : SqT K H' a xs := SqT.ext h e
/-- what isn't a tuple, nor a frozen one -/
def NotTp (H : Hp) (q : Addr) : Prop := ∀ xs, H q ≠ some (.tup xs) ∧ ∀ o, H q ≠ some (.frz o (.tup xs))
theorem NotTp.lst {H : Hp} {q : Addr} {xs : List V} (h : H q = some (.lst xs)) : NotTp H q := fun ys => ⟨(fun e => by rw [h] at e; cases e), (fun o e => by rw [h] at e; cases e)⟩
theorem NotTp.dK {H : Hp} {q : Addr} {xs : List (Key × V)} (h : H q = some (.dK xs)) : NotTp H q := fun ys => ⟨(fun e => by rw [h] at e; cases e), (fun o e => by rw [h] at e; cases e)⟩
theorem NotTp.ins {H : Hp} {q C dx : Addr} {fs : List (Str × V)} (h : H q = some (.ins C dx fs)) : NotTp H q := fun ys => ⟨(fun e => by rw [h] at e; cases e), (fun o e => by rw [h] at e; cases e)⟩
theorem Bag.notTp {n : Nat} {H : Hp} {p : Addr} (b : Bag n H p) : NotTp H p := by
  obtain ⟨_, _, _, h, _⟩ := b.ex
  exact .lst h
theorem Kp.tup {K : PySem.W.Frag} {H H' : Hp} {q a : Addr} {xs : List V} (k : Kp q H H') (n : NotTp H q) (h : SqT K H a xs) : SqT K H' a xs := by
  rcases h with (h | ⟨o, h⟩) | h
  · exact .inl (.inl (k _ _ h fun e => (n xs).1 (e ▸ h)))
  · exact .inl (.inr ⟨o, k _ _ h fun e => (n xs).2 o (e ▸ h)⟩)
  · exact .inr h
end UW

namespace UW
open PySem L2
theorem shaped_strsT {xs : List Str} (h : ∀ x ∈ xs, PyData.strOk x = true) : SeqAt.shaped (.tuple (xs.map PyData.str)) = true := by
  have := shaped_strs h
  unfold SeqAt.shaped at *
  simp only [PyData.canLay0, PyData.depth] at *
  exact this
theorem eqD_strsT {K : PySem.W.Frag} {H : Hp} {a b : Addr} {xs ys : List Str} {Q : VK} (h1 : SqT K H a (xs.map V.str)) (h2 : SqT K H b (ys.map V.str)) (hx : ∀ x ∈ xs, PyData.strOk x = true) (hy : ∀ y ∈ ys, PyData.strOk y = true) (q : Q (.bl (decide (xs = ys))) H) : rEqD K (.ref a) (.ref b) H Q := by
  refine ⟨_, _, .tup h1 (dpAll_strs xs), .tup h2 (dpAll_strs ys), shaped_strsT hx, shaped_strsT hy, ?_⟩
  have e : PyData.eqv (.tuple (xs.map PyData.str)) (.tuple (ys.map PyData.str)) = decide (xs = ys) := by
    simp only [PyData.eqv]
    exact eqvAll_strs xs ys
  rw [e]
  exact q
theorem dec_str {x y : Str} : decide (V.str x = V.str y) = decide (x = y) := decide_eq_decide.mpr ⟨fun e => by cases e; rfl, fun e => by rw [e]⟩
theorem dec_optV {x y : Option Str} : decide (optV x = optV y) = decide (x = y) := decide_eq_decide.mpr ⟨fun e => by
  cases x with
  | none => cases y with
    | none => rfl
    | some y => cases e
  | some x => cases y with
    | none => cases e
    | some y => cases e; rfl, fun e => by rw [e]⟩
theorem scal_optV (x y : Option Str) : scal (optV x) (optV y) = true := by
  cases x <;> cases y <;> rfl
end UW

namespace UW
open PySem L2
theorem neF {x : V} {A B : Prop} (h : B) : if (!decide (x = x)) = true then A else B := by
  rw [decide_eq_true rfl]
  exact iteF h
theorem eqv_strsT (xs : List Str) : PyData.eqv (.tuple (xs.map PyData.str)) (.tuple (xs.map PyData.str)) = true := by
  simp only [PyData.eqv]
  rw [eqvAll_strs]
  exact decide_eq_true rfl
theorem neD_quad {K : PySem.W.Frag} {H : Hp} {l l' a1 a2 a3 a4 b1 b2 b3 b4 : Addr} {x1 x2 x3 x4 : List Str} {Q : VK} (hl : SqL K H l [.ref a1, .ref a2, .ref a3, .ref a4]) (hl' : SqL K H l' [.ref b1, .ref b2, .ref b3, .ref b4])
    (h1 : SqT K H a1 (x1.map V.str)) (h2 : SqT K H a2 (x2.map V.str)) (h3 : SqT K H a3 (x3.map V.str)) (h4 : SqT K H a4 (x4.map V.str)) (g1 : SqT K H b1 (x1.map V.str)) (g2 : SqT K H b2 (x2.map V.str)) (g3 : SqT K H b3 (x3.map V.str)) (g4 : SqT K H b4 (x4.map V.str))
    (k1 : ∀ x ∈ x1, PyData.strOk x = true) (k2 : ∀ x ∈ x2, PyData.strOk x = true) (k3 : ∀ x ∈ x3, PyData.strOk x = true) (k4 : ∀ x ∈ x4, PyData.strOk x = true) (q : Q (.bl false) H) : rNeD K (.ref l) (.ref l') H Q := by
  have sh : SeqAt.shaped (.list [.tuple (x1.map PyData.str), .tuple (x2.map PyData.str), .tuple (x3.map PyData.str), .tuple (x4.map PyData.str)]) = true := by
    refine Bool.and_eq_true_iff.mpr ⟨?_, decide_eq_true ?_⟩
    · simp only [PyData.canLay0, PyData.canLayAll0]
      rw [(layAll_strs k1).1, (layAll_strs k2).1, (layAll_strs k3).1, (layAll_strs k4).1]
      rfl
    · simp only [PyData.depth, PyData.depthAll]
      rw [(layAll_strs k1).2, (layAll_strs k2).2, (layAll_strs k3).2, (layAll_strs k4).2]
      decide
  refine ⟨_, _, .lst hl (.cons (.tup h1 (dpAll_strs x1)) (.cons (.tup h2 (dpAll_strs x2)) (.cons (.tup h3 (dpAll_strs x3)) (.cons (.tup h4 (dpAll_strs x4)) .nil)))), .lst hl' (.cons (.tup g1 (dpAll_strs x1)) (.cons (.tup g2 (dpAll_strs x2)) (.cons (.tup g3 (dpAll_strs x3)) (.cons (.tup g4 (dpAll_strs x4)) .nil)))), sh, sh, ?_⟩
  have e : PyData.eqv (.list [.tuple (x1.map PyData.str), .tuple (x2.map PyData.str), .tuple (x3.map PyData.str), .tuple (x4.map PyData.str)]) (.list [.tuple (x1.map PyData.str), .tuple (x2.map PyData.str), .tuple (x3.map PyData.str), .tuple (x4.map PyData.str)]) = true := by
    rw [show ∀ xs ys, PyData.eqv (.list xs) (.list ys) = PyData.eqvAll xs ys from fun xs ys => by simp only [PyData.eqv]]
    simp only [PyData.eqvAll]
    rw [eqv_strsT, eqv_strsT, eqv_strsT, eqv_strsT]
    rfl
  rw [e]
  exact q
end UW
namespace UW
open PySem PySem.Spec PyProof.Rows L2
section
variable {prog : Program} {w : World} {A : Around} {E : Value → Shared → Prop} {s : Shared}
theorem adjust_back (n : Nat) : Builtin.Slice.sliceAdjust none none (-1) (n : Int) = ((n : Int) - 1, -1) := rfl
theorem places_back (n : Nat) : Builtin.Slice.slicePlaces ((n : Int) - 1) (-1) (-1) = n := by
  unfold Builtin.Slice.slicePlaces
  rw [if_neg (by decide), show (- -1 : Int) = 1 by decide, Int.ediv_one]
  split <;> omega
theorem applied_back {sl : Addr} {vs : Value} {n : Nat} {Q : Int × Int × Nat → Shared → Prop} (hs : s.heap.IsSliceOf sl .none .none vs) (ps : IsPart vs (some (-1))) (h : Q ((n : Int) - 1, -1, n) s) :
    wpAny (model prog w) A (Builtin.Slice.sliceApplied (.ref sl) (pure (n : Int))) Q E s := by
  obtain ⟨os, hos, _, hds⟩ := id hs
  unfold Builtin.Slice.sliceApplied Builtin.Slice.sliceFields
  refine wpAny_bind (wpAny_bind (wpAny_field hos hds (x := .none) rfl (wpAny_bind (wpAny_field hos hds (x := .none) rfl (wpAny_bind (wpAny_field hos hds (x := vs) rfl (wpAny_pure ?_)))))))
  refine wpAny_bind (HT.slicePart_ ps ?_)
  show wpAny _ _ (if ((-1 : Int) == 0) = true then _ else _) _ _ s
  rw [if_neg (by decide)]
  refine wpAny_bind (slicePart_none (wpAny_bind (slicePart_none (wpAny_bind (wpAny_pure ?_)))))
  show wpAny _ _ (pure ((n : Int) - 1, (-1 : Int), Builtin.Slice.slicePlaces ((n : Int) - 1) (-1) (-1))) _ _ s
  rw [places_back]
  exact wpAny_pure h
theorem fm_congr {α β : Type} {f g : α → Option β} : ∀ {l : List α}, (∀ x ∈ l, f x = g x) → l.filterMap f = l.filterMap g
  | [], _ => rfl
  | x :: l, h => by rw [List.filterMap_cons, List.filterMap_cons, h x (List.mem_cons_self ..), fm_congr fun y hy => h y (List.mem_cons_of_mem _ hy)]
theorem pick_back (xs : Array Value) : ((List.range xs.size).filterMap fun (m : Nat) => xs[((xs.size : Int) - 1 + (m : Int) * (-1)).toNat]?).toArray = xs.toList.reverse.toArray := by
  have e : (List.range xs.size).filterMap (fun (m : Nat) => xs[((xs.size : Int) - 1 + (m : Int) * (-1)).toNat]?) = ((List.range xs.size).map fun k => xs.size - 1 - k).filterMap (xs[·]?) := by
    rw [List.filterMap_map]
    refine fm_congr fun m hm => ?_
    have : ((xs.size : Int) - 1 + (m : Int) * (-1)).toNat = xs.size - 1 - m := by
      have := List.mem_range.mp hm
      omega
    show xs[_]? = xs[_]?
    rw [this]
  rw [e, PySem.W.krv_range, List.filterMap_reverse, PySem.W.krv_all]
theorem getItem_back {t sl : Addr} {items : Array Value} {vs : Value} {Q : Value → Shared → Prop} (ht : IsTup s.heap t items) (hs : s.heap.IsSliceOf sl .none .none vs) (ps : IsPart vs (some (-1)))
    (h : Q (.ref s.heap.objs.size) { s with heap := s.heap.push { cls := .type "tuple", data := .seq items.toList.reverse.toArray } }) (hsz : items.size ≤ sizeLine) : wpAny (model prog w) A (getItem (.ref t) (.ref sl)) Q E s := by
  have hok : sizeOk (.seq items.toList.reverse.toArray) := by
    show items.toList.reverse.toArray.size ≤ sizeLine
    rw [List.size_toArray, List.length_reverse, Array.length_toList]
    exact hsz
  have hTs : s.TypeIs (.ref sl) "slice" := by
    obtain ⟨os, hos, hcs, _⟩ := id hs
    exact ⟨os, hos, hcs⟩
  unfold getItem
  try with_reducible refine wpAny_holding ?_
  first | refine wpAny_bind (wpAny_pure ?_) | skip
  refine wpAny_bind (wpAny_sequenceKey ht.typeIs (by decide) ?_)
  refine wpAny_bind (wpAny_callSpecial?_slot (name := Str.ofString "__getitem__") ht.typeIs PyProof.Rows.slot_tuple_getitem
    (wpAny_call_entry PyProof.Rows.slot_tuple_getitem ht.typeIs entry_tuple_getitem ?_ (args_tuple_getitem _ _)))
  show wpAny _ _ (Builtin.Tuple.tupleItemsOf (.ref t) >>= _) _ _ s
  refine wpAny_bind (tupleItemsOf_ ht (wpAny_bind (wpAny_typeOf hTs ?_)))
  rw [if_pos (by decide)]
  refine wpAny_bind (applied_back hs ps ?_)
  show wpAny _ _ (if (((items.size : Int) - 1) == 0 && (-1 : Int) == 1 && items.size == items.size) = true then _ else _) _ _ s
  rw [if_neg (by rw [show ((-1 : Int) == 1) = false from rfl, Bool.and_false, Bool.false_and]; exact Bool.false_ne_true), pick_back]
  exact wpAny_bind (m := Builtin.Tuple.tupleExact _) (wpAny_newObj_type (wpAny_pure ⟨_, rfl, wpAny_pure h⟩) hok)
end
section
variable {X : Cx}
def tRevT (K : PySem.W.Frag) (te : TE) : TE := fun σ H Q => te σ H fun x H1 => ∃ a xs, x = .ref a ∧ SqT K H1 a xs ∧ ∀ p, H1 p = none → Q (.ref p) (upd H1 p (.tup xs.reverse))
theorem pe_revT {e : Expr} {te : TE} {k : Nat} {p1 p2 p3 pos : Pos} (he : PE X e te) : PE X (.Subscript e (.Slice none none (some (.UnaryOp .USub (.Constant (.int 1) k p1) p2)) p3) pos) (tRevT X.K te) := by
  refine ⟨fun pins s σ H Q I h => Subscript_ (thn (he.run pins s σ H _ I h) fun v s1 ⟨x, H1, I1, r1, q1⟩ => ?_)⟩
  obtain ⟨a, xs, ex, hx, q⟩ := q1
  subst ex
  cases r1
  have hst : PO X (some (.UnaryOp .USub (.Constant (.int 1) k p1) p2)) (tPart (tUn (rU fun i => .int (-i)) (tC (.int 1)))) := po_some (pe_un un_neg pe_int)
  refine wpAny_Slice (thn (po_none.run pins s1 σ H1 (fun o H2 => o = none ∧ H2 = H1) I1 ⟨rfl, rfl⟩) fun vl s2 ⟨l, H2, I2, pl, el, e2⟩ => ?_)
  subst el e2
  refine thn (po_none.run pins s2 σ H2 (fun o H3 => o = none ∧ H3 = H2) I2 ⟨rfl, rfl⟩) fun vu s3 ⟨u, H3, I3, pu, eu, e3⟩ => ?_
  subst eu e3
  refine thn (hst.run pins s3 σ H3 (fun o H4 => o = some (-1) ∧ H4 = H3) I3 ⟨1, rfl, -1, rfl, rfl, rfl⟩) fun vs s4 ⟨o, H4, I4, ps, eo, e4⟩ => ?_
  subst eo e4
  cases pl
  cases pu
  have I5 : Inv X pins σ H4 { s4 with heap := s4.heap.push { cls := .type "slice", data := .fields #[.none, .none, vs] } } := I4.kept (t' := s4.toks) fun b ob q => Heap.get?_push_of_some _ q
  obtain ⟨its, r, ht, hz⟩ := I5.tuple hx
  have hlen := r.length
  show wpAny (model X.prog X.w) X.A (subscriptTail e (.Slice none none (some (.UnaryOp .USub (.Constant (.int 1) k p1) p2)) p3) (.ref a) (.ref s4.heap.objs.size)) (EP X pins σ Q) X.xe { s4 with heap := s4.heap.push { cls := .type "slice", data := .fields #[.none, .none, vs] } }
  refine tail_any (ops := [.ref a, .ref s4.heap.objs.size]) ht.typeIs (PyProof.Rows.slot_tuple_getitem.lookup) ?_ (by with_unfolding_all rfl)
  refine getItem_back ht (Heap.IsSliceOf.new _ .none .none vs) ps ?_ (by rw [List.size_toArray]; omega)
  refine ⟨.ref _, _, I5.laid (t' := s4.toks) (o := .tup xs.reverse) (fun b ob q => Heap.get?_push_of_some _ q) (Nat.le_refl _) ?_, rfl, q _ (I5.hok.fresh (Nat.le_refl _))⟩
  exact ⟨by rw [List.length_reverse]; exact hz, _, r.reverse, IsTup.new _ _⟩
end
end UW

namespace UW
open PySem L2
theorem inV_mem (y : Str) (us : List V) : inV (.str y) us = true ↔ V.str y ∈ us := by
  unfold inV
  rw [List.any_eq_true]
  refine ⟨fun ⟨v, hv, e⟩ => ?_, fun h => ⟨_, h, by simp [eqV]⟩⟩
  have : v = .str y := by
    cases v <;> simp [eqV] at e
    rw [e]
  exact this ▸ hv
/-- the candidates that aren't among the given things -/
def frees (x : Str) (us : List V) : List Str := (cands x).filter fun y => !inV (.str y) us
theorem frees_ok {x : Str} {us : List V} {ds : List Str} (h : ∀ y, V.str y ∈ us → y ∈ ds) (hl : ds.length < 26) : ∃ z zs, frees x us = z :: zs ∧ V.str z ∉ us ∧ z ∈ cands x := by
  obtain ⟨c, hc, hd⟩ := free_in (cands_nodup x) (ds := ds) (by unfold cands; rw [List.length_map, List.length_range]; exact hl)
  have hm : c ∈ frees x us := List.mem_filter.mpr ⟨hc, by
    cases he : inV (.str c) us
    · rfl
    · exact absurd (h c ((inV_mem c us).mp he)) hd⟩
  cases hf : frees x us with
  | nil => rw [hf] at hm; cases hm
  | cons z zs =>
    have hz : z ∈ frees x us := by rw [hf]; exact List.mem_cons_self ..
    obtain ⟨h1, h2⟩ := List.mem_filter.mp hz
    refine ⟨z, zs, rfl, fun e => ?_, h1⟩
    rw [(inV_mem z us).mpr e] at h2
    exact Bool.false_ne_true h2
theorem cand_len {x z : Str} (h : z ∈ cands x) : z.length = 1 + x.length := by
  obtain ⟨i, _, rfl⟩ := List.mem_map.mp h
  rw [len_tl', sign_app_tl, List.length_cons, ← len_tl']
  omega
end UW
/-! own layer: the order of texts, lists of pairs of texts, sets of texts, min(default=), sorted pairs -/
namespace UP
open PySem L2 UW

/-! ### the order of texts -/
def ltS (x y : Str) : Bool := decide (x.cps.toList < y.cps.toList)
def leS (x y : Str) : Bool := !ltS y x
theorem ltS_irr (x : Str) : ltS x x = false := decide_eq_false (List.lt_irrefl _)
theorem ltS_tr {x y z : Str} (h : ltS x y = true) (g : ltS y z = true) : ltS x z = true := decide_eq_true (List.lt_trans (of_decide_eq_true h) (of_decide_eq_true g))
theorem ltS_or {x y : Str} (h : ltS x y = false) (n : x ≠ y) : ltS y x = true := by
  have h1 : ¬ x.cps.toList < y.cps.toList := of_decide_eq_false h
  refine decide_eq_true ?_
  rcases Classical.em (y.cps.toList < x.cps.toList) with h2 | h2
  · exact h2
  · exact absurd (str_ext (List.le_antisymm (List.not_lt.mp h2) (List.not_lt.mp h1))) n
theorem leS_refl (x : Str) : leS x x = true := by
  unfold leS
  rw [ltS_irr]
  rfl
theorem leS_anti {x y : Str} (h : leS x y = true) (g : leS y x = true) : x = y := by
  rcases Classical.em (x = y) with e | e
  · exact e
  · have h1 : ltS y x = false := by
      unfold leS at h
      cases q : ltS y x
      · rfl
      · rw [q] at h
        cases h
    have := ltS_or h1 (fun z => e z.symm)
    unfold leS at g
    rw [this] at g
    cases g
theorem leS_tot (x y : Str) : leS x y = true ∨ leS y x = true := by
  unfold leS
  cases q : ltS y x
  · exact .inl rfl
  · refine .inr ?_
    cases p : ltS x y
    · rfl
    · have := ltS_tr q p
      rw [ltS_irr] at this
      cases this
theorem leS_of_lt {x y : Str} (h : ltS x y = true) : leS x y = true := by
  rcases leS_tot x y with g | g
  · exact g
  · unfold leS at g
    rw [h] at g
    cases g
theorem leS_tr {x y z : Str} (h : leS x y = true) (g : leS y z = true) : leS x z = true := by
  rcases Classical.em (x = y) with e | e
  · rw [e]
    exact g
  rcases Classical.em (y = z) with e' | e'
  · rw [← e']
    exact h
  have a : ltS x y = true := by
    unfold leS at h
    refine ltS_or ?_ (fun q => e q.symm)
    cases q : ltS y x
    · rfl
    · rw [q] at h
      cases h
  have b : ltS y z = true := by
    unfold leS at g
    refine ltS_or ?_ (fun q => e' q.symm)
    cases q : ltS z y
    · rfl
    · rw [q] at g
      cases g
  exact leS_of_lt (ltS_tr a b)
theorem rising_pw : ∀ {p : Str} {xs : List Str}, PyProof.Rows.risingS p xs = true → (p :: xs).Pairwise fun x y => leS x y = true
  | p, [], _ => List.pairwise_singleton ..
  | p, x :: xs, h => by
    unfold PyProof.Rows.risingS at h
    obtain ⟨h1, h2⟩ := Bool.and_eq_true_iff.mp h
    have ih := rising_pw h2
    have hpx : leS p x = true := by
      unfold leS ltS
      rw [← PyProof.Rows.ltCps_eq]
      exact h1
    refine List.pairwise_cons.mpr ⟨fun y hy => ?_, ih⟩
    rcases List.mem_cons.mp hy with e | hy
    · rw [e]
      exact hpx
    · exact leS_tr hpx ((List.pairwise_cons.mp ih).1 y hy)
theorem sorted_pw {xs : List Str} (h : PyProof.Rows.sortedS xs = true) : xs.Pairwise fun x y => leS x y = true := by
  cases xs with
  | nil => exact List.Pairwise.nil
  | cons x xs => exact rising_pw h
/-- two risings of one bag are one -/
theorem pw_uniq {α : Type} {r : α → α → Prop} (an : ∀ x y, r x y → r y x → x = y) : ∀ {xs ys : List α}, xs.Perm ys → xs.Pairwise r → ys.Pairwise r → xs = ys
  | [], ys, p, _, _ => (List.Perm.eq_nil p.symm).symm
  | x :: xs, [], p, _, _ => absurd p.length_eq (by simp)
  | x :: xs, y :: ys, p, h, g => by
    have e : x = y := by
      rcases List.mem_cons.mp (p.mem_iff.mp (List.mem_cons_self (a := x) (l := xs))) with e | hx
      · exact e
      · rcases List.mem_cons.mp (p.mem_iff.mpr (List.mem_cons_self (a := y) (l := ys))) with e | hy
        · exact e.symm
        · exact an _ _ ((List.pairwise_cons.mp h).1 y hy) ((List.pairwise_cons.mp g).1 x hx)
    subst e
    rw [pw_uniq an p.cons_inv (List.pairwise_cons.mp h).2 (List.pairwise_cons.mp g).2]
/-- sorted(texts) -/
def srt (xs : List Str) : List Str := xs.mergeSort leS
theorem srt_perm (xs : List Str) : (srt xs).Perm xs := List.mergeSort_perm ..
theorem srt_pw (xs : List Str) : (srt xs).Pairwise fun x y => leS x y = true := by
  refine List.pairwise_mergeSort (le := leS) (fun a b c h g => leS_tr h g) (fun a b => ?_) xs
  rcases leS_tot a b with h | h
  · rw [h]
    rfl
  · rw [h, Bool.or_true]
theorem srt_uniq {xs ys : List Str} (p : ys.Perm xs) (h : ys.Pairwise fun x y => leS x y = true) : ys = srt xs :=
  pw_uniq (fun _ _ a b => leS_anti a b) (p.trans (srt_perm xs).symm) h (srt_pw xs)
theorem srt_of {xs ys : List Str} (p : ys.Perm xs) (h : PyProof.Rows.sortedS ys = true) : ys = srt xs := srt_uniq p (sorted_pw h)
theorem srt_mem {x : Str} {xs : List Str} : x ∈ srt xs ↔ x ∈ xs := (srt_perm xs).mem_iff
theorem srt_len (xs : List Str) : (srt xs).length = xs.length := (srt_perm xs).length_eq
theorem srt_nodup {xs : List Str} (h : xs.Nodup) : (srt xs).Nodup := (srt_perm xs).nodup_iff.mpr h
/-- the least one of which p is true -/
def Least (p : Str → Prop) : Option Str → Prop
  | none => ∀ x, ¬ p x
  | some m => p m ∧ ∀ x, p x → leS m x = true
theorem Least.uniq {p : Str → Prop} {a b : Option Str} (h : Least p a) (g : Least p b) : a = b := by
  cases a with
  | none =>
    cases b with
    | none => rfl
    | some y => exact absurd g.1 (h y)
  | some x =>
    cases b with
    | none => exact absurd h.1 (g x)
    | some y => rw [leS_anti (h.2 y g.1) (g.2 x h.1)]
theorem Least.iff {p q : Str → Prop} {a : Option Str} (h : Least p a) (e : ∀ x, p x ↔ q x) : Least q a := by
  cases a with
  | none => exact fun x z => h x ((e x).mpr z)
  | some m => exact ⟨(e m).mp h.1, fun x z => h.2 x ((e x).mpr z)⟩

/-! ### lists of pairs of texts -/
inductive Prs (K : PySem.W.Frag) (H : Hp) : List V → List (Str × Str) → Prop
  | nil : Prs K H [] []
  | cons {t : Addr} {d : Str × Str} {xs : List V} {ds : List (Str × Str)} : SqT K H t [.str d.1, .str d.2] → Prs K H xs ds → Prs K H (.ref t :: xs) (d :: ds)
section
variable {K : PySem.W.Frag} {H H' : Hp} {xs ys : List V} {ds es : List (Str × Str)}
theorem Prs.same (h : Prs K H xs ds) (s : Same H H') : Prs K H' xs ds := by
  induction h with
  | nil => exact .nil
  | cons a _ ih => exact .cons (tup_same s a) ih
theorem Prs.keep {q : Addr} (h : Prs K H xs ds) (k : Kp q H H') (n : NotTp H q) : Prs K H' xs ds := by
  induction h with
  | nil => exact .nil
  | cons a _ ih => exact .cons (k.tup n a) ih
theorem Prs.len (h : Prs K H xs ds) : xs.length = ds.length := by
  induction h with
  | nil => rfl
  | cons _ _ ih => rw [List.length_cons, List.length_cons, ih]
theorem Prs.app (h : Prs K H xs ds) (g : Prs K H ys es) : Prs K H (xs ++ ys) (ds ++ es) := by
  induction h with
  | nil => exact g
  | cons a _ ih => exact .cons a ih
theorem Prs.one {t : Addr} {d : Str × Str} (a : SqT K H t [.str d.1, .str d.2]) : Prs K H [.ref t] [d] := .cons a .nil
theorem Prs.rev (h : Prs K H xs ds) : Prs K H xs.reverse ds.reverse := by
  induction h with
  | nil => exact .nil
  | cons a _ ih =>
    rw [List.reverse_cons, List.reverse_cons]
    exact ih.app (.one a)
theorem Prs.get {i : Nat} {x : V} (h : Prs K H xs ds) (e : xs[i]? = some x) : ∃ t d, x = .ref t ∧ ds[i]? = some d ∧ SqT K H t [.str d.1, .str d.2] := by
  induction h generalizing i with
  | nil => simp at e
  | @cons t d _ _ a _ ih =>
    cases i with
    | zero =>
      cases e
      exact ⟨t, d, rfl, rfl, a⟩
    | succ i => exact ih e
def enc2 (d : Str × Str) : PyData := .tuple [.str d.1, .str d.2]
def Ok2 (d : Str × Str) : Prop := PyData.strOk d.1 = true ∧ PyData.strOk d.2 = true
theorem Prs.dp (h : Prs K H xs ds) : DpAll K H xs (ds.map enc2) := by
  induction h with
  | nil => exact .nil
  | cons a _ ih => exact .cons (.tup a (.cons (.str _) (.cons (.str _) .nil))) ih
theorem lay2 {d : Str × Str} (h : Ok2 d) : PyData.canLay0 (enc2 d) = true ∧ PyData.depth (enc2 d) = 1 := by
  unfold enc2
  refine ⟨?_, ?_⟩
  · simp only [PyData.canLay0, PyData.canLayAll0, h.1, h.2, Bool.and_self]
  · simp only [PyData.depth, PyData.depthAll, Nat.max_self]
theorem layAll2 : ∀ {ds : List (Str × Str)}, (∀ d ∈ ds, Ok2 d) → PyData.canLayAll0 (ds.map enc2) = true ∧ PyData.depthAll (ds.map enc2) ≤ 1
  | [], _ => ⟨by simp only [List.map_nil, PyData.canLayAll0], by simp only [List.map_nil, PyData.depthAll]; decide⟩
  | d :: ds, h => by
    obtain ⟨c, e⟩ := layAll2 fun y hy => h y (List.mem_cons_of_mem _ hy)
    obtain ⟨c1, e1⟩ := lay2 (h d (List.mem_cons_self ..))
    rw [List.map_cons]
    refine ⟨by simp only [PyData.canLayAll0, c1, c, Bool.and_self], ?_⟩
    simp only [PyData.depthAll, e1]
    omega
theorem shaped2 {d : Str × Str} (h : Ok2 d) : SeqAt.shaped (enc2 d) = true := by
  obtain ⟨a, b⟩ := lay2 h
  refine Bool.and_eq_true_iff.mpr ⟨a, decide_eq_true ?_⟩
  rw [b]
  decide
theorem shapedL2 {ds : List (Str × Str)} (h : ∀ d ∈ ds, Ok2 d) : SeqAt.shaped (.list (ds.map enc2)) = true := by
  obtain ⟨a, b⟩ := layAll2 h
  refine Bool.and_eq_true_iff.mpr ⟨?_, decide_eq_true ?_⟩
  · simp only [PyData.canLay0]
    exact a
  · simp only [PyData.depth]
    omega
theorem eqv2 (d e : Str × Str) : PyData.eqv (enc2 d) (enc2 e) = decide (d = e) := by
  obtain ⟨a, b⟩ := d
  obtain ⟨c, f⟩ := e
  have q := eqvAll_strs [a, b] [c, f]
  unfold enc2
  rw [show ∀ xs ys, PyData.eqv (.tuple xs) (.tuple ys) = PyData.eqvAll xs ys from fun xs ys => by simp only [PyData.eqv]]
  refine q.trans (decide_eq_decide.mpr ⟨fun z => ?_, fun z => ?_⟩)
  · injection z with z1 z2
    injection z2 with z2 _
    rw [z1, z2]
  · injection z with z1 z2
    rw [z1, z2]
theorem any2 (d : Str × Str) : ∀ ds : List (Str × Str), ((ds.map enc2).any fun z => PyData.eqv z (enc2 d)) = decide (d ∈ ds)
  | [] => rfl
  | e :: ds => by
    rw [List.map_cons, List.any_cons, any2 d ds, eqv2]
    by_cases h : e = d
    · rw [decide_eq_true h, Bool.true_or, decide_eq_true (by rw [h]; exact List.mem_cons_self ..)]
    · rw [decide_eq_false h, Bool.false_or]
      exact decide_eq_decide.mpr ⟨fun z => List.mem_cons_of_mem _ z, fun z => (List.mem_cons.mp z).resolve_left fun q => h q.symm⟩
theorem eqvAll2 : ∀ ds es : List (Str × Str), PyData.eqvAll (ds.map enc2) (es.map enc2) = decide (ds = es)
  | [], [] => by simp only [List.map_nil, PyData.eqvAll]; rfl
  | [], y :: ys => by simp only [List.map_nil, List.map_cons, PyData.eqvAll]; rfl
  | x :: xs, [] => by simp only [List.map_nil, List.map_cons, PyData.eqvAll]; rfl
  | x :: xs, y :: ys => by
    rw [List.map_cons, List.map_cons, show ∀ a b as bs, PyData.eqvAll (a :: as) (b :: bs) = (PyData.eqv a b && PyData.eqvAll as bs) from fun a b as bs => by simp only [PyData.eqvAll], eqvAll2 xs ys, eqv2]
    by_cases h : x = y
    · rw [decide_eq_true h, Bool.true_and]
      exact decide_eq_decide.mpr ⟨fun e => by rw [h, e], fun e => by injection e⟩
    · rw [decide_eq_false h, Bool.false_and]
      exact (decide_eq_false fun e => h (by injection e)).symm
theorem eqvL2 (ds es : List (Str × Str)) : PyData.eqv (.list (ds.map enc2)) (.list (es.map enc2)) = decide (ds = es) := by
  rw [show ∀ xs ys, PyData.eqv (.list xs) (.list ys) = PyData.eqvAll xs ys from fun xs ys => by simp only [PyData.eqv]]
  exact eqvAll2 ds es
theorem inD2 {t a : Addr} {d : Str × Str} {Q : VK} (ht : SqT K H t [.str d.1, .str d.2]) (ha : SqL K H a xs) (hx : Prs K H xs ds) (k : Ok2 d) (ks : ∀ d ∈ ds, Ok2 d) (q : Q (.bl (decide (d ∈ ds))) H) : rInD K (.ref t) (.ref a) H Q := by
  refine ⟨enc2 d, ds.map enc2, .tup ht (.cons (.str _) (.cons (.str _) .nil)), .lst ha hx.dp, shaped2 k, shapedL2 ks, ?_⟩
  rw [any2]
  exact q
theorem notInD2 {t a : Addr} {d : Str × Str} {Q : VK} (ht : SqT K H t [.str d.1, .str d.2]) (ha : SqL K H a xs) (hx : Prs K H xs ds) (k : Ok2 d) (ks : ∀ d ∈ ds, Ok2 d) (q : Q (.bl (!decide (d ∈ ds))) H) : rNotInD K (.ref t) (.ref a) H Q := by
  refine ⟨enc2 d, ds.map enc2, .tup ht (.cons (.str _) (.cons (.str _) .nil)), .lst ha hx.dp, shaped2 k, shapedL2 ks, ?_⟩
  rw [any2]
  exact q
theorem neD2 {a b : Addr} {Q : VK} (ha : SqL K H a xs) (hx : Prs K H xs ds) (hb : SqL K H b ys) (hy : Prs K H ys es) (k : ∀ d ∈ ds, Ok2 d) (k' : ∀ d ∈ es, Ok2 d) (q : Q (.bl (!decide (ds = es))) H) : rNeD K (.ref a) (.ref b) H Q := by
  refine ⟨_, _, .lst ha hx.dp, .lst hb hy.dp, shapedL2 k, shapedL2 k', ?_⟩
  rw [eqvL2]
  exact q
theorem eqD2 {a b : Addr} {Q : VK} (ha : SqL K H a xs) (hx : Prs K H xs ds) (hb : SqL K H b ys) (hy : Prs K H ys es) (k : ∀ d ∈ ds, Ok2 d) (k' : ∀ d ∈ es, Ok2 d) (q : Q (.bl (decide (ds = es))) H) : rEqD K (.ref a) (.ref b) H Q := by
  refine ⟨_, _, .lst ha hx.dp, .lst hb hy.dp, shapedL2 k, shapedL2 k', ?_⟩
  rw [eqvL2]
  exact q
end
end UP

namespace UP
open PySem PySem.Spec PyProof.Rows L2 UW
/-! ### min(texts, default=None) -/
def rMinS (K : PySem.W.Frag) : List V → List V → Hp → VK → Prop := fun vs zs H Q => ∃ (a : Addr) (xs : List Str), vs = [.ref a] ∧ zs = [.non] ∧ SqL K H a (xs.map V.str) ∧ ∀ o, Least (fun x => x ∈ xs) o → Q (optV o) H
theorem minOf_mem (x : Str) : ∀ xs : List Str, PySem.W.minOf x xs ∈ x :: xs
  | [] => List.mem_cons_self ..
  | y :: ys => by
    show PySem.W.minOf (if PySem.W.DatumOrd.lt y x = true then y else x) ys ∈ x :: y :: ys
    have := minOf_mem (if PySem.W.DatumOrd.lt y x = true then y else x) ys
    rcases List.mem_cons.mp this with e | e
    · rw [e]
      split
      · exact List.mem_cons_of_mem _ (List.mem_cons_self ..)
      · exact List.mem_cons_self ..
    · exact List.mem_cons_of_mem _ (List.mem_cons_of_mem _ e)
theorem minOf_le (x : Str) : ∀ xs : List Str, ∀ z ∈ x :: xs, leS (PySem.W.minOf x xs) z = true
  | [], z, hz => by
    rw [List.mem_singleton.mp hz]
    exact leS_refl _
  | y :: ys, z, hz => by
    show leS (PySem.W.minOf (if PySem.W.DatumOrd.lt y x = true then y else x) ys) z = true
    have ih := minOf_le (if PySem.W.DatumOrd.lt y x = true then y else x) ys
    have h0 := ih _ (List.mem_cons_self ..)
    have hx : leS (if PySem.W.DatumOrd.lt y x = true then y else x) x = true ∧ leS (if PySem.W.DatumOrd.lt y x = true then y else x) y = true := by
      rcases Classical.em (PySem.W.DatumOrd.lt y x = true) with c | c
      · rw [if_pos c]
        exact ⟨leS_of_lt c, leS_refl _⟩
      · rw [if_neg c]
        refine ⟨leS_refl _, ?_⟩
        unfold leS
        rw [show ltS y x = false from Bool.eq_false_iff.mpr c]
        rfl
    rcases List.mem_cons.mp hz with e | hz
    · rw [e]
      exact leS_tr h0 hx.1
    · rcases List.mem_cons.mp hz with e | hz
      · rw [e]
        exact leS_tr h0 hx.2
      · exact ih z (List.mem_cons_of_mem _ hz)
theorem vals_get : ∀ {vs : List V} {us : List Value}, Vals vs us → ∀ {i : Nat} {v : Value}, us[i]? = some v → ∃ x, vs[i]? = some x ∧ RelV x v
  | _, _, .nil, i, v, h => by simp at h
  | _, _, .cons r t, 0, v, h => by
    cases h
    exact ⟨_, rfl, r⟩
  | _, _, .cons r t, i + 1, v, h => vals_get t (i := i) h
theorem cr_minS {X : Cx} (hc : X.calm = true) (hu : X.A.units + 64 < cLine) : CallRK X (.builtin "min") [Str.ofString "default"] (rMinS X.K) := by
  intro pins s σ H vs zs us ws Q I r rz h
  obtain ⟨a, xs, rfl, rfl, hs, q⟩ := h
  obtain ⟨its, rv, hl, _⟩ := I.list hs
  rw [Vals.ref1 r]
  obtain ⟨w1, rfl, rfl⟩ := vals1 rz
  obtain ⟨as, hr⟩ := Dp.readsAll I (xs.map PyData.str) _ _ (dpAll_strs (K := X.K) (H := H) xs) rv
  have hold : PySem.W.HoldAll s.heap its.toArray.toList xs := ⟨as, hr⟩
  refine PySem.W.min_list_datum_default (I.ok.hd hc) hl.isList hold (by show X.A.units + 1 + _ < cLine; have : PySem.W.Datum.depth Str = 0 := rfl; omega) (fun e h' tk hk => ⟨.non, H, I.kept hk, rfl, ?_⟩) fun y ys i v h' tk e hi hv hk => ?_
  · subst e
    exact q none (fun x hx => nomatch hx)
  · subst e
    obtain ⟨bs, rd⟩ := hv
    have hi' : its[i]? = some v := by rw [← List.getElem?_toArray]; exact hi
    obtain ⟨x, hx, rx⟩ := vals_get rv hi'
    obtain ⟨w, hw, rfl⟩ := map_str_get hx
    obtain ⟨t, rfl⟩ := rx
    have ew : w = PySem.W.minOf y ys := by
      change PySem.Reads h' (.str w t) (.str (PySem.W.minOf y ys)) bs at rd
      cases rd
      rfl
    refine ⟨.str w, H, I.kept hk, ⟨t, rfl⟩, ?_⟩
    rw [ew]
    exact q (some _) ⟨minOf_mem y ys, fun z hz => minOf_le y ys z hz⟩
end UP

namespace UP
open PySem L2
theorem take_snoc {α : Type} {ds : List α} {i : Nat} {d : α} (h : ds[i]? = some d) : ds.take (i + 1) = ds.take i ++ [d] := by
  rw [List.take_add_one, h]
  rfl
theorem un65 {k : Nat} {A : Around} (r : Room k A) : A.units + 65 < cLine := by
  have := r.un
  omega
end UP

namespace UP
open PySem PySem.Spec PyProof.Rows L2
theorem binds_all {K : PySem.W.Frag} {fd : FuncData} {ps : List Str} (h : ∃ ds, Vals [] ds ∧ Binds K fd ps ds) : Binds K fd ps [] := by
  obtain ⟨ds, r, b⟩ := h
  cases r
  exact b
section
variable {X : Cx}
/-- y = {k: v for ..}, y a plain local -/
theorem ps_setDc {i : Nat} {y : Str} {py pos spos : Pos} {kx vx tg iter : Expr} {ifs : List Expr} {scope : Scope} {own : List (Str × Nat)} {wi : TI} {g : TG} {tt : TT} {tk tv : TE}
    (hc : X.calm = true) (hN : X.N.Nodup) (hy : X.N[i]? = some y) (hyl : X.env.scope.names.lookup y = some .local) (hsw : swapsWith (.DictComp kx vx [⟨tg, iter, ifs, 0⟩] scope pos) (some (.Name y py)) spos.line X.env = pure true)
    (hi : PI X tg iter wi) (ok : BlkOk X.N X.env.scope scope own)
    (hg : ∀ s H C cl fp, PG (X.blk s H scope (compEnvC scope cl C X.env) fp) tg g) (ht : ∀ s H C cl fp, PTs (X.blk s H scope (compEnvC scope cl C X.env) fp) ifs tt)
    (hk : ∀ s H C cl fp, PE (X.blk s H scope (compEnvC scope cl C X.env) fp) kx tk) (hv : ∀ s H C cl fp, PE (X.blk s H scope (compEnvC scope cl C X.env) fp) vx tv)
    (hs : ∀ x, foldedSetIterable iter X.env x = pure x := by intro _; rfl) :
    PS X (.Assign [.Name y py] (.DictComp kx vx [⟨tg, iter, ifs, 0⟩] scope pos) spos) (tAsg (tDc wi g tt tk tv (own.map (·.2))) (gName i)) := by
  refine ⟨fun pins s σ H D I h => ?_⟩
  rw [exec_Assign_Name_used _ _ _ _ hsw]
  refine wpAny_bind (wpAny_standAt (wpAny_bind (wpAny_bind (m := comprehension _ _ _ _ newDict false (eval iter X.env) (some (assign (.Name y py) X.env))) (thn ?_ fun _ z q => wpAny_pure (wpAny_pure q)))))
  refine dc_core (Qf := fun _ z => SP X pins D .next z) hc hN I hi ok hg ht hk hv hs (Q := fun x H1 => gName i x σ H1 D.nx) h fun L C z m H2 I2 q ns fp => ?_
  show wpAny _ _ (assign (.Name y py) X.env (.ref L)) _ _ _
  refine wpAny_assign_Name (store_ok2 (v := V.ref L) I2 hN hy (.inl hyl) rfl (fun z2 J ⟨a, sb, ha⟩ => ?_) (.inr hyl))
  obtain ⟨f0, f1, f2, f3, f4, f5⟩ := fp
  have ne : C ≠ a := ha.elim (fun e => e ▸ f1) fun e q => f4 y a e q.symm
  exact ⟨m, ns.sameBut sb ne, fun h3 sb3 => ⟨_, H2, J.turned (t' := z2.toks) (fun b o hb e => (sb3.2 b hb).trans e) f0 f1 f3 f4 f5, q⟩⟩
theorem sw_dict {kx vx : Expr} {gs : List Comprehension} {scope : Scope} {pos py : Pos} {y : Str} {l : Nat} {env : Env} (hk : env.scope.kind = .function) (hy : env.scope.names.lookup y = some .local) (hl : (py.line == pos.line) = true)
    (ha : (scope.names.any fun (n, k) => n == y && (k == .local || k == .cell)) = false) : swapsWith (.DictComp kx vx gs scope pos) (some (.Name y py)) l env = pure true := by
  have e1 : env.kindOf y = some .local := hy
  have e2 : env.blockKind = .function := by
    unfold Env.blockKind
    rw [hk]
    rfl
  unfold swapsWith
  simp only [e2, e1, ha, Expr.pos, hl]
  rfl
end
end UP

namespace UP
open PySem L2
theorem pe_fldK {X : Cx} {K : PySem.W.Frag} {e : Expr} {f : Str} {pos : Pos} {ta : TE} (hK : X.K = K) (he : PE X e ta) (hb : attributeBase e f X.env (eval e X.env) = eval e X.env) : PE X (.Attribute e f pos) (tFld K ta f) := by
  subst hK
  exact pe_fld he hb
end UP

namespace UP
open PySem L2
theorem pi_listK {X : Cx} {K : PySem.W.Frag} {tg e : Expr} {te : TE} (hK : X.K = K) (he : PE X e te) : PI X tg e (iList K te) := by
  subst hK
  exact pi_list he
theorem pi_tupK {X : Cx} {K : PySem.W.Frag} {tg e : Expr} {te : TE} (hK : X.K = K) (he : PE X e te) : PI X tg e (iTup K te) := by
  subst hK
  exact pi_tup he
end UP

namespace UP
open PySem L2
/-- a walk by one rule or by another -/
def iOr (a b : TI) : TI := fun σ H R => a σ H R ∨ b σ H R
theorem pi_or {X : Cx} {tg e : Expr} {a b : TI} (h : PI X tg e a) (g : PI X tg e b) : PI X tg e (iOr a b) :=
  ⟨fun pins s σ H R I q => q.elim (h.run pins s σ H R I) (g.run pins s σ H R I)⟩
end UP

namespace UP
open PySem PySem.Spec PyProof.Rows L2 UW
/-! ### set(texts), len of it -/
abbrev freshS (led : Bool) : Obj := { cls := .type "set", dict := none, data := .set #[] 0 (.fresh 0 0 led) }
/-- a key that is one of these texts -/
def keyIn (ds : List Str) : Key → Bool
  | .inl _ => false
  | .inr x => decide (x ∈ ds)
/-- the set of these texts stands at a -/
def SetTx (P : Program) (w : World) (h : Heap) (a : Addr) (xs : List Str) : Prop :=
  ∃ ds : List Str, ds.Nodup ∧ (∀ x, x ∈ ds ↔ x ∈ xs) ∧ ds.length ≤ xs.length ∧ h.SetOf (mixKind P w) a (keyIn ds) ds.length
section
variable {P : Program} {w : World} {A : Around} {E : Value → Shared → Prop} {s : Shared}
theorem SetTx.at {h h' : Heap} {a : Addr} {xs : List Str} (S : SetTx P w h a xs) (k : ∀ o, h.get? a = some o → h'.get? a = some o) : SetTx P w h' a xs := by
  obtain ⟨ds, h1, h2, h3, h4⟩ := S
  exact ⟨ds, h1, h2, h3, setOf_at h4 k⟩
theorem setOf_by {h : Heap} {a : Addr} {S S' : Key → Bool} {n n' : Nat} (g : h.SetOf (mixKind P w) a S n) (e : ∀ k, S k = S' k) (en : n = n') : h.SetOf (mixKind P w) a S' n' := by
  obtain rfl : S = S' := funext e
  rw [← en]
  exact g
/-- one text more -/
theorem SetTx.more {h' : Heap} {a : Addr} {xs ds : List Str} {x : Str} (h1 : ds.Nodup) (h2 : ∀ y, y ∈ ds ↔ y ∈ xs) (h3 : ds.length ≤ xs.length)
    (g : h'.SetOf (mixKind P w) a (fun k => keyIn ds k || decide (k = Sum.inr x)) (if keyIn ds (Sum.inr x) = true then ds.length else ds.length + 1)) : SetTx P w h' a (xs ++ [x]) := by
  by_cases c : x ∈ ds
  · refine ⟨ds, h1, fun y => ?_, by rw [List.length_append]; exact Nat.le_succ_of_le h3, ?_⟩
    · rw [List.mem_append, ← h2 y, List.mem_singleton]
      exact ⟨.inl, fun z => z.elim id fun e => e ▸ c⟩
    · refine setOf_by g (fun k => ?_) (if_pos (decide_eq_true c))
      by_cases e : k = Sum.inr x
      · rw [e]
        show (decide (x ∈ ds) || _) = decide (x ∈ ds)
        rw [decide_eq_true c, Bool.true_or]
      · rw [decide_eq_false e, Bool.or_false]
  · refine ⟨ds ++ [x], ?_, fun y => ?_, by rw [List.length_append, List.length_append]; exact Nat.succ_le_succ h3, ?_⟩
    · rw [List.nodup_append]
      exact ⟨h1, List.nodup_cons.mpr ⟨by simp, List.nodup_nil⟩, fun p hp r hr e => c (by rw [← List.mem_singleton.mp hr, ← e]; exact hp)⟩
    · rw [List.mem_append, List.mem_append, h2 y]
    · refine setOf_by g (fun k => ?_) ?_
      · by_cases e : k = Sum.inr x
        · rw [e, decide_eq_true (rfl : (Sum.inr x : Key) = Sum.inr x), Bool.or_true]
          exact (decide_eq_true (List.mem_append_right _ (List.mem_singleton.mpr rfl))).symm
        · rw [decide_eq_false e, Bool.or_false]
          cases k with
          | inl i => rfl
          | inr y =>
            refine decide_eq_decide.mpr ⟨List.mem_append_left _, fun z => (List.mem_append.mp z).elim id fun z => absurd (congrArg Sum.inr (List.mem_singleton.mp z)) e⟩
      · rw [show keyIn ds (Sum.inr x) = false from decide_eq_false c, List.length_append]
        rfl
theorem loop_tx {I S : Addr} {fp wr : List Addr} {G : Array GenState → Array GenState → Prop} {n : Nat} {Pv : Nat → Value → Prop} {St : Nat → Shared → Prop} {R : Result → Shared → Prop}
    (W : WalksS P w A.in1 I fp wr G n Pv St) (off : S ∉ fp) (xs : List Str) (hn : n = xs.length) (room : xs.length + 1 < scanBound) (hv : ∀ i v, Pv i v → ∃ x t, xs[i]? = some x ∧ v = .str x t) :
    ∀ (left i : Nat) (s : Shared), n - i = left → i ≤ n → St i s → SetTx P w s.heap S (xs.take i) →
      (∀ s', Moved (S :: wr) G s s' → SetTx P w s'.heap S xs → R (.ok (.ret .none)) s') →
      codeAny (model P w) A (.builtin "set.update.loop" ⟨[.ref S, .ref I], []⟩) R s := by
  have offw : S ∉ wr := fun z => off (W.sub _ z)
  have wide : ∀ c ∈ wr, c ∈ S :: wr := fun c hc => List.mem_cons_of_mem _ hc
  intro left
  induction left with
  | zero =>
    intro i s hk hi hst hT hR
    obtain rfl : i = n := by omega
    rw [List.take_of_length_le (by omega)] at hT
    refine codeAny_builtin PyProof.Rows.F.entry_set_update_loop ?_
    rw [Around.under_plainId PyProof.Rows.F.plain_set_update_loop _]
    refine wpAny_bind (m := pyNext (.ref I)) (W.done s _ _ hst fun s' hm => ?_)
    exact wpAny_pure (hR s' (hm.mono wide) (hT.at fun o e => hm.heap S o offw e))
  | succ left ih =>
    intro i s hk hi hst hT hR
    have lt : i < n := by omega
    refine codeAny_builtin PyProof.Rows.F.entry_set_update_loop ?_
    rw [Around.under_plainId PyProof.Rows.F.plain_set_update_loop _]
    refine wpAny_bind (m := pyNext (.ref I)) (W.item i s _ _ lt hst fun v s' hP hst' hm => ?_)
    obtain ⟨x, t, hx, rfl⟩ := hv i v hP
    obtain ⟨ds, d1, d2, d3, d4⟩ := hT.at (h' := s'.heap) fun o e => hm.heap S o offw e
    refine wpAny_bind (m := holding [Value.str x t] (setAdd S (.str x t))) (wpAny_holding ?_)
    unfold setAdd
    refine wpAny_holding (wpAny_bind ((mixKind P w).pyHash (k := .inr x) (mixKind_str P w x t) ?_))
    have few : ds.length + 1 < scanBound := by
      rw [List.length_take] at d3
      omega
    refine wpAny_setAddHashed_of (knd := mixKind P w) (s := { s' with toks := s'.toks + 1 }) (mixKind_str P w x t) rfl d4 few fun h' sb hS2 => ?_
    have hT2 : SetTx P w h' S (xs.take (i + 1)) := by
      rw [List.take_add_one, hx]
      exact SetTx.more d1 d2 d3 hS2
    refine wpAny_pure ⟨plainId_quiet PyProof.Rows.F.plain_set_update_loop _, ih (i + 1) _ (by omega) lt (W.frame _ s' _ _ hst' (Nat.le_succ _) fun c hc o e => ?_) hT2 fun s'' hm'' hT'' => ?_⟩
    · rw [sb.2 c fun z : c = S => off (z ▸ hc)]
      exact e
    · refine hR s'' (Moved.trans W.gtrans ((hm.mono wide).then_heap (Nat.le_succ _) fun c o hc e => ?_) hm'') hT''
      rw [sb.2 c fun z : c = S => hc (by rw [z]; exact List.mem_cons_self)]
      exact e
end
end UP

namespace UP
open PySem PySem.Spec PyProof.Rows L2 UW
section
variable {P : Program} {w : World} {A : Around} {E : Value → Shared → Prop} {s : Shared}
set_option maxHeartbeats 3200000 in
/-- set(xs), xs a list of texts -/
theorem call_set_tx {l : Addr} {its : Array Value} (xs : List Str) {Q : Value → Shared → Prop} (hh : A.handled = none) (hl : s.heap.IsList l its) (hv : ∀ (i : Nat) (v : Value), its[i]? = some v → ∃ x t, xs[i]? = some x ∧ v = Value.str x t) (hn : its.size = xs.length) (room : xs.length + 1 < scanBound)
    (h : ∀ (h' : Heap) (tk : Nat), SetTx P w h' s.heap.objs.size xs → (∀ b o, s.heap.get? b = some o → h'.get? b = some o) → Q (.ref s.heap.objs.size) { s with heap := h', toks := tk }) :
    wpAny (model P w) A (call (.type "set") [.ref l]) Q E s := by
  obtain ⟨c0, c1, mro⟩ := PySem.F.called_set.mro
  have made := PySem.F.called_set.made
  have sub0 := PySem.F.called_set.sub
  refine wpAny_call (codeAny_of_tree ?_)
  show wpAny _ _ (callAny (.type "set") _) _ _ _
  refine wpAny_pure ⟨Code.quiet_builtin _ (by decide +kernel), codeAny_builtin PySem.F.entry_type_call ?_⟩
  rw [Around.under_plain (weight_type_call_type "set" [.ref l] []) rfl]
  have n1 := PySem.F.called_set.notType
  have n2 := PySem.F.called_set.canCreate
  have n3 := PySem.F.typeCall_set_1 (.ref l)
  repeat (any_goals first | assumption | wp_step)
  refine codeAny_mono (code_set_new_1 (.ref l) (E := E) (Q₁ := fun ob z => ∃ led, ob = .ref s.heap.objs.size ∧ z = { s with heap := s.heap.push (freshS led) }) fun led => ⟨led, rfl, rfl⟩) fun r z hr => ?_
  cases r with
  | error e => exact hr
  | ok fl =>
    cases fl with
    | ret ob =>
      obtain ⟨led, rfl, rfl⟩ := hr
      have here : (s.heap.push (freshS led)).get? s.heap.objs.size = some (freshS led) := Heap.get?_push_size _ rfl
      have ty : Shared.TypeIs { s with heap := s.heap.push (freshS led) } (.ref s.heap.objs.size) "set" := ⟨_, here, rfl⟩
      have i1 := PySem.F.called_set.init.lookup
      have i2 := PySem.F.called_set.init.bind (.ref s.heap.objs.size)
      repeat (any_goals first | assumption | wp_step)
      refine codeAny_mono (codeAny_call_builtin (R := wants (fun r z => r = .none ∧ ∃ h' tk, z = { s with heap := h', toks := tk } ∧ SetTx P w h' s.heap.objs.size xs ∧ (∀ b o, s.heap.get? b = some o → h'.get? b = some o)) E)
        PySem.F.called_set.init.plain PySem.F.entry_set_init (check_set_init_1 ty ?_)) fun r2 z2 hr2 => ?_
      · obtain ⟨ol, hol, hcl, nl, hdl⟩ := hl
        obtain ⟨ocls, odict, odata, oslots⟩ := ol
        simp only at hcl hdl
        subst hcl hdl
        have hol2 : (s.heap.push (freshS led)).get? l = some { cls := .type "list", dict := odict, data := .seq its nl, slots := oslots } := Heap.get?_push_of_some _ hol
        have u1 := PySem.F.sub_list_set
        have u2 := PySem.F.sub_list_frozenset
        have u3 : (Value.type "list" == Value.type "dict") = false := by decide
        have lst : (s.heap.push (freshS led)).IsList l its := ⟨_, hol2, rfl, nl, rfl⟩
        unfold Builtin.«set.__init__» noKeywords Builtin.Frozenset.updateFrom
        generalize hPI : pyIter = PI
        wp_walk
        subst hPI
        refine wpAny_pyIter_list lst (wpAny_bind (wpAny_runValue ?_))
        have ltl : l < s.heap.objs.size := Heap.lt_size hol
        have zsz : (s.heap.push (freshS led)).objs.size = s.heap.objs.size + 1 := Heap.size_push ..
        have neI : l ≠ (s.heap.push (freshS led)).objs.size := by
          rw [zsz]
          exact Nat.ne_of_lt (Nat.lt_succ_of_lt ltl)
        have off : s.heap.objs.size ∉ [(s.heap.push (freshS led)).objs.size, l] := by
          rw [zsz, List.mem_cons, List.mem_singleton]
          exact fun z => z.elim (Nat.ne_of_lt (Nat.lt_succ_self _)) (Nat.ne_of_gt ltl)
        have hh3 : A.in1.in1.in1.handled = none := hh
        refine loop_tx ((Walks.list hh3 _ l neI its).toS) off xs hn room hv (its.size - 0) 0 _ (by omega) (Nat.zero_le _) ⟨⟨_, Heap.get?_push_size _ rfl, rfl, rfl⟩, lst.push _⟩ ?_ ?_
        · refine ⟨[], List.nodup_nil, fun x => ⟨(fun z => nomatch z), (fun z => nomatch z)⟩, Nat.le_refl _, ?_⟩
          have here2 : ((s.heap.push (freshS led)).push { cls := .type "list_iterator", data := .fields #[.ref l, .int 0 0] }).get? s.heap.objs.size = some (freshS led) := Heap.get?_push_of_some _ here
          exact ⟨freshS led, #[], 0, _, here2, ⟨rfl, rfl, rfl⟩, rfl, fun e he => by simp at he, fun k => by cases k <;> simp [keyIn], by decide, by rfl, rfl⟩
        · rintro ⟨h', g2, d2, tk2, os2⟩ hm hT
          obtain rfl : g2 = s.gens := hm.gens
          obtain rfl : d2 = s.drawn := hm.drawn
          obtain rfl : os2 = s.os := hm.os
          refine wpAny_pure (wpAny_pure ⟨rfl, h', tk2, rfl, hT, fun b o e => ?_⟩)
          have ltb : b < s.heap.objs.size := Heap.lt_size e
          refine hm.heap b o ?_ (Heap.get?_push_of_some _ (Heap.get?_push_of_some _ e))
          rw [zsz, List.mem_cons, List.mem_cons, List.mem_nil_iff, or_false]
          exact fun z => z.elim (Nat.ne_of_lt ltb) (Nat.ne_of_lt (Nat.lt_succ_of_lt ltb))
      · cases r2 with
        | error e => exact hr2
        | ok fl2 =>
          cases fl2 with
          | ret r =>
            obtain ⟨rfl, h', tk, rfl, hT, hk⟩ := hr2
            repeat (any_goals first | assumption | wp_step)
            exact h _ _ hT hk
          | _ => exact hr2.elim
    | _ => exact hr.elim
end
section
variable {X : Cx}
/-- set(xs) of a list of texts: as many as are unlike -/
def rSetTx (K : PySem.W.Frag) (P : Program) (w : World) : List V → Hp → VK → Prop := fun vs H Q => ∃ (l : Addr) (xs : List Str), vs = [.ref l] ∧ SqL K H l (xs.map V.str) ∧ xs.length < 1000 ∧
  ∀ p ds, H p = none → ds.Nodup → (∀ x, x ∈ ds ↔ x ∈ xs) → Q (.ref p) (upd H p (SetK P w p (keyIn ds) ds.length))
theorem cr_setTx (hc : X.calm = true) : CallR X (.type "set") (rSetTx X.K X.prog X.w) := by
  intro pins s σ H vs us Q I r h
  obtain ⟨l, xs, rfl, hs, few, q⟩ := h
  obtain ⟨its, rv, hl, _⟩ := I.list hs
  rw [Vals.ref1 r]
  have hlen : its.length = xs.length := by rw [← rv.length, List.length_map]
  refine call_set_tx xs (I.ok.hd hc) hl.isList (fun i v hi => ?_) (by rw [List.size_toArray]; exact hlen) (by unfold scanBound; omega) fun h' tk hT hk => ?_
  · obtain ⟨x, hx, rx⟩ := vals_get rv (show its[i]? = some v by rw [← List.getElem?_toArray]; exact hi)
    obtain ⟨y, hy, rfl⟩ := map_str_get hx
    obtain ⟨t, rfl⟩ := rx
    exact ⟨y, t, hy, rfl⟩
  · obtain ⟨ds, h1, h2, _, h4⟩ := hT
    exact ⟨.ref _, upd H s.heap.objs.size (SetK X.prog X.w s.heap.objs.size (keyIn ds) ds.length), I.laid hk (Nat.le_refl _) (setK_new h4), rfl, q _ ds (I.hok.fresh (Nat.le_refl _)) h1 h2⟩
/-- len of such a set -/
def rLenTx (P : Program) (w : World) : List V → Hp → VK → Prop := fun vs H Q => ∃ (a : Addr) (S : Key → Bool) (n : Nat), vs = [.ref a] ∧ H a = some (SetK P w a S n) ∧ n < 1000 ∧ Q (.int n) H
theorem cr_lenTx : CallR X (.builtin "len") (rLenTx X.prog X.w) := by
  intro pins s σ H vs us Q I r h
  obtain ⟨a, S, n, rfl, ha, few, q⟩ := h
  rw [Vals.ref1 r]
  obtain ⟨o, es, ep, t, ho, hex, hd, _, _, _, hf, hn⟩ := setK_get I ha
  exact call_len_set ho hex hd hf (by rw [hn]; omega) ⟨.int n, H, I.tok _, ⟨_, by rw [hn]⟩, q⟩
end
end UP
namespace K16
open PySem L2 UW UP
-- US
def topS (i : Nat) : Stmt := PySem.Challenge.pw_unitwants_k16_clashes.main.body.getD i (.Pass ⟨0, 0, 0, 0⟩)
abbrev s_clash_in : Stmt := topS 1
abbrev N_clash_in : List Str := ["demands", "name", "way"]
theorem sc_clash_in : FnScope N_clash_in ["demands"] (defScope s_clash_in) := ⟨rfl, rfl, rfl, by decide +kernel, rfl, by decide +kernel, by decide +kernel⟩
abbrev s_law_bag : Stmt := topS 3
abbrev N_law_bag : List Str := ["_law_script", "_law_at", "_law_cell", "_law_far"]
theorem sc_law_bag : FnScope N_law_bag ["_law_script", "_law_at"] (defScope s_law_bag) := ⟨rfl, rfl, rfl, by decide +kernel, rfl, by decide +kernel, by decide +kernel⟩
abbrev s_law_take : Stmt := topS 4
abbrev N_law_take : List Str := ["_law_bag_here", "_law_size", "_law_digit", "_law_primes", "_law_stage", "_law_basis", "_law_found"]
theorem sc_law_take : FnScope N_law_take ["_law_bag_here", "_law_size"] (defScope s_law_take) := ⟨rfl, rfl, rfl, by decide +kernel, rfl, by decide +kernel, by decide +kernel⟩
abbrev s_law_name : Stmt := topS 5
abbrev N_law_name : List Str := ["_law_bag_here", "_law_letters", "_law_size", "_law_spot"]
theorem sc_law_name : FnScope N_law_name ["_law_bag_here"] (defScope s_law_name) := ⟨rfl, rfl, rfl, by decide +kernel, rfl, by decide +kernel, by decide +kernel⟩
abbrev s_law_names : Stmt := topS 6
abbrev N_law_names : List Str := ["_law_bag_here", "_law_size", "_law_found", "_law_spot", "_law_word", "_law_one"]
theorem sc_law_names : FnScope N_law_names ["_law_bag_here", "_law_size"] (defScope s_law_names) := ⟨rfl, rfl, rfl, by decide +kernel, rfl, by decide +kernel, by decide +kernel⟩
abbrev s_law_due : Stmt := topS 7
abbrev N_law_due : List Str := ["_law_some", "_law_word", "_law_way", "_law_other"]
theorem sc_law_due : FnScope N_law_due ["_law_some"] (defScope s_law_due) := ⟨rfl, rfl, rfl, by decide +kernel, rfl, by decide +kernel, by decide +kernel⟩
abbrev s_law : Stmt := topS 8
abbrev N_law : List Str := ["_law_script", "_law_k", "_law_bag_here", "_law_words", "_law_often", "_law_some", "_law_turn", "_law_way", "_law_handed", "_law_both"]
theorem sc_law : FnScope N_law ["_law_script"] (defScope s_law) := ⟨rfl, rfl, rfl, by decide +kernel, rfl, by decide +kernel, by decide +kernel⟩
structure Txt (K : PySem.W.Frag) (mg : Str → Option Value) where
  d_clash_in : FuncData
  F_clash_in : FunD K "clash_in" "clash_in" (defArgs s_clash_in) (defBody s_clash_in) (defScope s_clash_in) [] [] (He.fAd K ("clash_in", none)) d_clash_in
  m_clash_in : mg "clash_in" = some (.ref (He.ga K "clash_in"))
  b_clash_in : Binds K d_clash_in ["demands"] []
  d_law_bag : FuncData
  F_law_bag : FunD K "_law_bag" "_law_bag" (defArgs s_law_bag) (defBody s_law_bag) (defScope s_law_bag) [] [] (He.fAd K ("_law_bag", none)) d_law_bag
  m_law_bag : mg "_law_bag" = some (.ref (He.ga K "_law_bag"))
  b_law_bag : Binds K d_law_bag ["_law_script", "_law_at"] []
  d_law_take : FuncData
  F_law_take : FunD K "_law_take" "_law_take" (defArgs s_law_take) (defBody s_law_take) (defScope s_law_take) [] [] (He.fAd K ("_law_take", none)) d_law_take
  m_law_take : mg "_law_take" = some (.ref (He.ga K "_law_take"))
  b_law_take : Binds K d_law_take ["_law_bag_here", "_law_size"] []
  d_law_name : FuncData
  F_law_name : FunD K "_law_name" "_law_name" (defArgs s_law_name) (defBody s_law_name) (defScope s_law_name) [] [] (He.fAd K ("_law_name", none)) d_law_name
  m_law_name : mg "_law_name" = some (.ref (He.ga K "_law_name"))
  b_law_name : Binds K d_law_name ["_law_bag_here"] []
  d_law_names : FuncData
  F_law_names : FunD K "_law_names" "_law_names" (defArgs s_law_names) (defBody s_law_names) (defScope s_law_names) [] [] (He.fAd K ("_law_names", none)) d_law_names
  m_law_names : mg "_law_names" = some (.ref (He.ga K "_law_names"))
  b_law_names : Binds K d_law_names ["_law_bag_here", "_law_size"] []
  d_law_due : FuncData
  F_law_due : FunD K "_law_due" "_law_due" (defArgs s_law_due) (defBody s_law_due) (defScope s_law_due) [] [] (He.fAd K ("_law_due", none)) d_law_due
  m_law_due : mg "_law_due" = some (.ref (He.ga K "_law_due"))
  b_law_due : Binds K d_law_due ["_law_some"] []
  d_law : FuncData
  F_law : FunD K "law" "law" (defArgs s_law) (defBody s_law) (defScope s_law) [] [] (He.fAd K ("law", none)) d_law
  m_law : mg "law" = some (.ref (He.ga K "law"))
  b_law : Binds K d_law ["_law_script"] []
  n_min : mg "min" = none
  n_abs : mg "abs" = none
  n_len : mg "len" = none
  n_int : mg "int" = none
  n_range : mg "range" = none
  n_sorted : mg "sorted" = none
  n_set : mg "set" = none
  n_max : mg "max" = none
  n_list : mg "list" = none
  kb_clash_in_0_demands : ∃ gg, KBn K d_clash_in ["demands"] 0 ["demands"] gg (fun us ws => us ++ (ws.drop 0).take 1)
section
variable {P : Program} {w : World} {K : PySem.W.Frag} {mg : Str → Option Value} {base : Heap}
/-! ### the bag and a draw -/
def sp_law_bag (K : PySem.W.Frag) : Sp := fun vs H Q _ => ∃ (a : Addr) (ns : List Int) (k : Nat), vs = [.ref a, .int k] ∧ SqL K H a (ns.map V.int) ∧ k ≤ 1000 ∧
  ∀ p H', H p = none → Same H H' → Bag 0 H' p → Q (.ref p) H'
theorem ok_law_bag (T : Txt K mg) : FnOk P w K mg base CX0 1 (He.fAd K ("_law_bag", none)) T.d_law_bag ["_law_script", "_law_at"] (sp_law_bag K) := by
  refine T.F_law_bag.ok sc_law_bag (fun vs H Q E h => ?_) (fun cdv A outer s H vs Q E hr h => ?_)
  · obtain ⟨a, ns, k, rfl, _⟩ := h
    rfl
  · obtain ⟨a, ns, k, rfl, hS, hk, q⟩ := h
    refine ⟨_, PSs.nox (pss_cons (ps_set (i := 2) sc_law_bag.nd rfl (Or.inl rfl) (pe_op op_add (pe_op op_add (pe_op op_mul (pe_op op_mul pe_int (pv 1)) (pv 1)) (pe_op op_mul pe_int (pv 1))) pe_int))
      (pss_mid (ps_if (pt_cmpR op_lt (pv 1) (pe_callB (id := "len")  call_len_seq (by rfl) T.n_len (by decide +kernel) (pa_cons (pv 0) pa_nil)) (nomark _))
      (pss_one (ps_set (i := 2) sc_law_bag.nd rfl (Or.inl rfl) (pe_ix ix_list (pv 0) (pv 1) (fun _ _ => rfl))))
      pss_nil)
      (pss_cons (ps_set (i := 3) sc_law_bag.nd rfl (Or.inl rfl) (pe_callB (id := "abs")  call_abs (by rfl) T.n_abs (by decide +kernel) (pa_cons (pv 2) pa_nil)))
      (pss_one (ps_ret (pe_lst (pa_cons (pe_op op_mul (pv 3) (pe_callTy (T := "int")  call_int1 (by rfl) T.n_int (by decide +kernel) (pa_cons (pe_cmpR op_ge (pv 3) (pe_op op_powL pe_int pe_int) (nomark _)) pa_nil))) (pa_cons (pe_op op_add (pe_op op_mod (pv 2) (pe_op op_add (pe_op op_powL pe_int pe_int) pe_int)) (pe_op op_mul pe_int (pv 1))) (pa_cons pe_int pa_nil))))))))), ?_⟩
    have hk2 : (k : Int) ≤ 1000 := by omega
    have hk0 : (0 : Int) ≤ k := Int.natCast_nonneg _
    -- cell = 7919 * at * at + 104729 * at + 11
    refine ⟨_, rfl, _, _, rfl, rfl, .inl ⟨by decide, by decide⟩, _, rfl, _, _, rfl, rfl, .inr ⟨by omega, by omega⟩, _, rfl, _, _, rfl, rfl, .inl ⟨by decide, by decide⟩, _, _, rfl, rfl, _, _, rfl, rfl, ?_⟩
    -- if at < len(script)
    refine ⟨fun σ H' => H' = H ∧ ∃ c : Int, σ = [some (.ref a), some (.int k), some (.int c), none], ?_, ?_⟩
    · refine ⟨_, rfl, _, rfl, a, _, rfl, .inl hS, _, _, rfl, rfl, _, rfl, ?_⟩
      refine ite2 (fun hc => ?_) (fun hc => ?_)
      · have hlt : k < ns.length := by
          have := of_decide_eq_true hc
          rw [List.length_map] at this
          omega
        exact ⟨_, rfl, _, rfl, a, _, _, .int ns[k], rfl, rfl, hS, atI_nat (by rw [List.getElem?_map, List.getElem?_eq_getElem hlt]; rfl), rfl, _, rfl⟩
      · exact ⟨rfl, _, rfl⟩
    · rintro σ H' ⟨rfl, c, rfl⟩
      -- far = abs(cell); return [far * int(far >= 10 ** 18), cell % (10 ** 18 + 9) + 1299709 * at, 0]
      refine ⟨_, rfl, _, rfl, ?_⟩
      refine ⟨_, rfl, _, rfl, _, _, rfl, rfl, pow10, _, _, rfl, rfl, .inr ⟨_, rfl, _, _, rfl, rfl, cmul_b, ?_⟩⟩
      refine ⟨_, rfl, _, _, rfl, rfl, pow10, _, _, rfl, rfl, _, _, rfl, rfl, (by show (0 : Int) < 10 ^ (18 : Int).toNat + 9; decide), _, rfl, _, _, rfl, rfl, .inl ⟨by decide, by decide⟩, _, _, rfl, rfl, (by show 3 ≤ sizeLine; decide), fun p hp => ?_⟩
      exact q p _ hp (same_upd hp) (bag_made hk0 hk2)
abbrev sp_law_take (K : PySem.W.Frag) : Sp := spTake
theorem ok_law_take (T : Txt K mg) : FnOk P w K mg base CX0 1 (He.fAd K ("_law_take", none)) T.d_law_take ["_law_bag_here", "_law_size"] (sp_law_take K) := by
  refine T.F_law_take.ok sc_law_take (fun vs H Q E h => ?_) (fun cdv A outer s H vs Q E hr h => ?_)
  · obtain ⟨p, z, n, rfl, _⟩ := take_un h
    rfl
  · obtain ⟨p, z, n, rfl, hB, hz0, hz1, hn, q⟩ := take_un h
    refine ⟨_, PSs.nox (pss_cons (ps_if (pt_cmpR op_gt (pe_ix ix_list (pv 0) pe_int (fun _ _ => rfl)) pe_int (nomark _))
      (pss_cons (ps_set (i := 2) sc_law_take.nd rfl (Or.inl rfl) (pe_op op_mod (pe_ix ix_list (pv 0) pe_int (fun _ _ => rfl)) (pv 1)))
      (pss_cons (ps_asg (pe_op op_fdiv (pe_ix ix_list (pv 0) pe_int (fun _ _ => rfl)) (pv 1)) (pg_sub (pv 0) pe_int set_list))
      (pss_one (ps_ret (pv 2)))))
      pss_nil)
      (pss_cons (ps_set (i := 3) sc_law_take.nd rfl (Or.inl rfl) (pe_tup (pa_cons pe_int (pa_cons pe_int (pa_cons pe_int (pa_cons pe_int (pa_cons pe_int (pa_cons pe_int (pa_cons pe_int (pa_cons pe_int pa_nil))))))))))
      (pss_cons (ps_asg (pe_op op_add (pe_ix ix_list (pv 0) pe_int (fun _ _ => rfl)) pe_int) (pg_sub (pv 0) pe_int set_list))
      (pss_cons (ps_set (i := 4) sc_law_take.nd rfl (Or.inl rfl) (pe_ix ix_list (pv 0) pe_int (fun _ _ => rfl)))
      (pss_cons (ps_set (i := 5) sc_law_take.nd rfl (Or.inl rfl) (pe_op op_add (pe_op op_add (pe_op op_mul (pe_ix ix_list (pv 0) pe_int (fun _ _ => rfl)) (pe_op op_add (pe_op op_mul pe_int (pv 4)) pe_int)) (pe_op op_mul (pe_op op_mul pe_int (pv 4)) (pv 4))) pe_int))
      (pss_cons (ps_set (i := 6) sc_law_take.nd rfl (Or.inl rfl) (pe_op op_mod (pe_op op_powL (pv 5) pe_int) (pe_ix ix_tup (pv 3) (pe_op op_mod (pv 4) pe_int) (fun _ _ => rfl))))
      (pss_one (ps_ret (pe_op op_mod (pe_op op_fdiv (pe_op op_mod (pe_op op_mul (pv 6) (pe_op op_add (pe_op op_fdiv (pv 6) pe_int) pe_int)) (pe_ix ix_tup (pv 3) (pe_op op_mod (pe_op op_add (pv 4) pe_int) pe_int) (fun _ _ => rfl))) pe_int) (pv 1)))))))))), ?_⟩
    obtain ⟨a, b, c, hp, ha, hb, hb1, hc, hc1⟩ := hB.ex
    -- if bag[0] > 0
    refine ⟨_, rfl, p, _, _, _, rfl, rfl, SqL.of hp, at0, _, _, rfl, rfl, _, rfl, ?_⟩
    refine ite2 (fun _ => ?_) (fun _ => ?_)
    · -- digit = bag[0] % size
      refine ⟨_, rfl, p, _, _, _, rfl, rfl, SqL.of hp, at0, _, rfl, _, _, rfl, rfl, hz0, ?_⟩
      -- bag[0] = bag[0] // size
      refine ⟨_, rfl, p, _, _, _, rfl, rfl, SqL.of hp, at0, _, rfl, _, _, rfl, rfl, ⟨hz0, hz1⟩, _, rfl, p, _, _, 0, rfl, rfl, hp, rfl, ?_⟩
      refine ⟨_, rfl, ?_⟩
      refine q (a % z) _ (Int.emod_nonneg _ (by omega)) (Int.emod_lt_of_pos _ hz0) ⟨_, _, _, upd_same, Int.ediv_nonneg ha (by omega), hb, hb1, hc, by omega⟩ (mut_keep rfl)
    · -- primes
      refine ⟨by show 8 ≤ sizeLine; decide, fun t ht => ?_⟩
      generalize hE : upd H t _ = H1
      have k1 := new_at hE
      have s1 := new_same hE ht
      have hp1 := s1 _ _ hp
      have npt : p ≠ t := ne_some hp ht
      -- bag[2] = bag[2] + 1
      refine ⟨_, rfl, p, _, _, _, rfl, rfl, SqL.of hp1, at2, _, _, rfl, rfl, _, rfl, p, _, _, 2, rfl, rfl, hp1, rfl, ?_⟩
      generalize hE2 : upd H1 p _ = H2
      have hp2 : H2 p = some (.lst [.int a, .int b, .int (c + 1)]) := new_at hE2
      have kp2 := mut_keep hE2
      have k2 := kp2 _ _ k1 npt.symm
      have bag2 : Bag (n + 1) H2 p := ⟨_, _, _, hp2, ha, hb, hb1, by omega, by omega⟩
      have kpA : Kp p H H2 := (Kp.of s1).trans kp2
      -- stage, basis
      refine ⟨_, rfl, p, _, _, _, rfl, rfl, SqL.of hp2, at2, ?_⟩
      refine ⟨_, rfl, p, _, _, _, rfl, rfl, SqL.of hp2, at1, _, rfl, _, _, rfl, rfl, .inl ⟨by decide, by decide⟩, _, _, rfl, rfl, _, _, rfl, rfl, .inl ⟨by omega, by omega⟩, _, rfl, _, _, rfl, rfl, .inl ⟨by decide, by decide⟩, _, rfl, _, _, rfl, rfl, .inr ⟨by omega, by omega⟩, _, _, rfl, rfl, _, _, rfl, rfl, ?_⟩
      -- found = basis ** 3 % primes[stage % 8]
      obtain ⟨p1, e1, g1, l1⟩ := prime_at (c + 1)
      refine ⟨_, rfl, _, _, rfl, rfl, ⟨by decide, by decide, basis_small hb hb1 (by omega) (by omega)⟩, _, rfl, _, rfl, _, _, rfl, rfl, (by show (0 : Int) < 8; decide), t, _, _, _, rfl, rfl, SqT.of k2, e1, _, _, rfl, rfl, g1, ?_⟩
      generalize hf : (b * (2 * (c + 1) + 1) + 7919 * (c + 1) * (c + 1) + 29) ^ (3 : Int).toNat % p1 = f
      have f0 : 0 ≤ f := by rw [← hf]; exact Int.emod_nonneg _ (by have : 0 < p1 := g1; omega)
      have f1 : f < 2147483648 := by
        have h1 := Int.emod_lt_of_pos ((b * (2 * (c + 1) + 1) + 7919 * (c + 1) * (c + 1) + 29) ^ (3 : Int).toNat) (show 0 < p1 from g1)
        rw [hf] at h1
        omega
      obtain ⟨p2, e2, g2, l2⟩ := prime_at (c + 1 + 5)
      refine ⟨_, rfl, _, rfl, _, _, rfl, rfl, ⟨by decide, by decide⟩, _, _, rfl, rfl, _, _, rfl, rfl, .inl ⟨by omega, by omega⟩, _, rfl, _, rfl, _, _, rfl, rfl, _, _, rfl, rfl, (by show (0 : Int) < 8; decide), t, _, _, _, rfl, rfl, SqT.of k2, e2, _, _, rfl, rfl, g2, _, _, rfl, rfl, ⟨by decide, by decide⟩, _, rfl, _, _, rfl, rfl, hz0, ?_⟩
      exact q _ _ (Int.emod_nonneg _ (by omega)) (Int.emod_lt_of_pos _ hz0) bag2 kpA

-- SPLIT
/-! ### names drawn -/
def sp_law_name (K : PySem.W.Frag) : Sp := fun vs H Q _ => ∃ (p : Addr) (n : Nat), vs = [.ref p] ∧ Bag n H p ∧ n < 800000000 ∧
  ∀ (x : Str) H', Nm x → Bag (n + 10) H' p → Kp p H H' → Q (.str x) H'
theorem ok_law_name (T : Txt K mg) : FnOk P w K mg base CX0 2 (He.fAd K ("_law_name", none)) T.d_law_name ["_law_bag_here"] (sp_law_name K) := by
  refine T.F_law_name.ok sc_law_name (fun vs H Q E h => ?_) (fun cdv A outer s H vs Q E hr h => ?_)
  · obtain ⟨p, n, rfl, _⟩ := h
    rfl
  · obtain ⟨p, n, rfl, B, hn, q⟩ := h
    refine ⟨_, PSs.nox (pss_cons (ps_set (i := 1) sc_law_name.nd rfl (Or.inr rfl) pe_str)
      (pss_cons (ps_set (i := 2) sc_law_name.nd rfl (Or.inl rfl) (pe_op op_add pe_int (pe_call (ok_law_take T) (hr.mono (by decide)) (by rfl) T.m_law_take T.F_law_take.kp T.b_law_take .nil pass0 (pa_cons (pv 0) (pa_cons (pe_ix ix_list (pe_lst (pa_cons pe_int (pa_cons pe_int pa_nil))) (pe_callTy (T := "int")  call_int1 (by rfl) T.n_int (by decide +kernel) (pa_cons (pe_cmpR op_eq (pe_call (ok_law_take T) (hr.mono (by decide)) (by rfl) T.m_law_take T.F_law_take.kp T.b_law_take .nil pass0 (pa_cons (pv 0) (pa_cons pe_int pa_nil))) pe_int (nomark _)) pa_nil)) (fun _ _ => rfl)) pa_nil)))))
      (pss_one (ps_ret (pe_join pe_str (pe_lc (own := [("_law_spot", 3)]) (by rfl) sc_law_name.nd (pi_range1 (by rfl) T.n_range (pa_cons (pv 2) pa_nil)) (blkOk_by (own := [("_law_spot", 3)]) (N := N_law_name) (sc := defScope s_law_name) (by decide +kernel)) (fun _ _ _ _ _ => (pg_name (i := 3) sc_law_name.nd rfl (Or.inl rfl))) (fun _ _ _ _ _ => pts_nil) (fun _ _ _ _ _ => (pe_ix ix_str (pv 1) (pe_call (ok_law_take T) (hr.mono (by decide)) (by rfl) T.m_law_take T.F_law_take.kp T.b_law_take .nil pass0 (pa_cons (pv 0) (pa_cons pe_int pa_nil))) (fun _ _ => rfl))))))))), ?_⟩
    -- size = 1 + take(bag, [2, 8][int(take(bag, 4) == 0)])
    refine ⟨_, rfl, by show 2 ≤ sizeLine; decide, fun l1 n1 => ?_⟩
    generalize hE1 : upd H l1 _ = H1
    have w1 := new_at hE1
    have s1 := new_same hE1 n1
    have np1 := B.ne n1
    refine ⟨_, rfl, ?_⟩
    refine take_of (z := 4) (B.same s1) (by decide) (by decide) (by omega) fun r2 H2 a2 b2 B2 k2 => ?_
    have ix : ∃ m : Int, 2 ≤ m ∧ m ≤ 8 ∧ atI [V.int 2, V.int 8] (if decide (V.int r2 = V.int 0) = true then 1 else 0) = some (.int m) := by
      cases decide (V.int r2 = V.int 0)
      · exact ⟨2, by decide, by decide, at0⟩
      · exact ⟨8, by decide, by decide, at1⟩
    obtain ⟨m, m0, m1, em⟩ := ix
    refine ⟨rfl, .inr ⟨_, rfl, l1, _, _, _, rfl, rfl, SqL.of (k2 _ _ w1 np1.symm), em, ?_⟩⟩
    refine take_of (z := m) B2 (by omega) (by omega) (by omega) fun r3 H3 a3 b3 B3 k3 => ?_
    have kA : Kp p H H3 := ((Kp.of s1).trans k2).trans k3
    refine ⟨_, _, rfl, rfl, ?_⟩
    -- "".join([..])
    refine ⟨⟨_, rfl⟩, _, rfl, _, rfl, by omega, by omega, fun D nD => ?_⟩
    have npD := B3.ne nD
    refine lc_range (lo := 0) (n := (1 + r3).toNat) (fun i H' => Bag (n + 2 + i) H' p ∧ Kp p H H' ∧ ∃ ys : List Str, ys.length = i ∧ (∀ y ∈ ys, ∃ c, y = ⟨#[c]⟩ ∧ 97 ≤ c ∧ c ≤ 122) ∧ H' D = some (.lst (ys.map V.str)))
      ⟨B3.same (same_upd nD), kA.same (same_upd nD), [], rfl, (fun y hy => nomatch hy), upd_same⟩ ?_ ?_
    · rintro i H4 hi ⟨B4, k4, ys, hl, hy, w4⟩
      refine ⟨rfl, yes_of (iteT ?_)⟩
      refine ⟨_, rfl, _, rfl, ?_⟩
      refine take_of (z := 26) B4 (by decide) (by decide) (by omega) fun r5 H5 a5 b5 B5 k5 => ?_
      obtain ⟨c, ec, c0, c1⟩ := letter_at a5 b5
      have w5 := k5 _ _ w4 npD.symm
      refine ⟨_, _, c, rfl, rfl, by decide +kernel, ec, _, w5, by rw [List.length_map]; exact small1000 (by omega), ?_⟩
      have nDH : H D = none := kA.free nD npD.symm
      refine ⟨B5.keep (mut_keep rfl) npD, (k4.trans k5).own (mut_keep rfl) nDH, ys ++ [⟨#[c]⟩], by rw [List.length_append, hl]; rfl, fun y hyy => ?_, by rw [upd_same, List.map_append]; rfl⟩
      rcases List.mem_append.mp hyy with hyy | hyy
      · exact hy y hyy
      · rw [List.mem_singleton.mp hyy]
        exact ⟨c, rfl, c0, c1⟩
    · rintro H4 ⟨B4, k4, ys, hl, hy, w4⟩
      have hsum : (ys.map (·.length)).sum ≤ 8 := by
        have : ∀ ys : List Str, (∀ y ∈ ys, ∃ c, y = ⟨#[c]⟩ ∧ 97 ≤ c ∧ c ≤ 122) → (ys.map (·.length)).sum = ys.length := by
          intro ys
          induction ys with
          | nil => exact fun _ => rfl
          | cons y ys ih =>
            intro h
            obtain ⟨c, rfl, _⟩ := h y (List.mem_cons_self ..)
            rw [List.map_cons, List.sum_cons, ih fun z hz => h z (List.mem_cons_of_mem _ hz), List.length_cons]
            show 1 + ys.length = ys.length + 1
            omega
        rw [this ys hy]
        omega
      refine ⟨_, D, ys, rfl, rfl, .inl (SqL.of w4), by rw [show (Str.ofString "").length = 0 from by decide +kernel]; omega, ?_⟩
      exact q _ H4 (join_one hy (by omega) (by omega)) (B4.le (by omega)) k4
def sp_law_names (K : PySem.W.Frag) : Sp := fun vs H Q _ => ∃ (p : Addr) (k n : Nat), vs = [.ref p, .int k] ∧ Bag n H p ∧ n < 700000000 ∧ k ≤ 20 ∧
  ∀ (xs : List Str) (l : Addr) H', xs.length = k → xs.Nodup → (∀ x ∈ xs, Nm x) → H l = none → H' l = some (.lst (xs.map V.str)) → Bag (n + 10 * k) H' p → Kp p H H' → Q (.ref l) H'
theorem ok_law_names (T : Txt K mg) : FnOk P w K mg base CX0 3 (He.fAd K ("_law_names", none)) T.d_law_names ["_law_bag_here", "_law_size"] (sp_law_names K) := by
  refine T.F_law_names.ok sc_law_names (fun vs H Q E h => ?_) (fun cdv A outer s H vs Q E hr h => ?_)
  · obtain ⟨p, k, n, rfl, _⟩ := h
    rfl
  · obtain ⟨p, k, n, rfl, B, hn, hk, q⟩ := h
    refine ⟨_, PSs.nox (pss_cons (ps_set (i := 2) sc_law_names.nd rfl (Or.inr rfl) (pe_lst pa_nil))
      (pss_cons (ps_for PassesOwn.never rfl (pi_range1 (by rfl) T.n_range (pa_cons (pv 1) pa_nil)) (pg_name (i := 3) sc_law_names.nd rfl (Or.inl rfl))
      (pss_cons (ps_set (i := 4) sc_law_names.nd rfl (Or.inr rfl) (pe_call (ok_law_name T) (hr.mono (by decide)) (by rfl) T.m_law_name T.F_law_name.kp T.b_law_name .nil pass0 (pa_cons (pv 0) pa_nil)))
      (pss_mid (ps_if (pt_cmpR op_in_seq (pv 4) (pv 2) (by rfl))
      (pss_one (ps_set (i := 4) sc_law_names.nd rfl (Or.inr rfl) (pe_ix ix_list (pe_lc (own := [("_law_one", 5)]) (by rfl) sc_law_names.nd (pi_str pe_str) (blkOk_by (own := [("_law_one", 5)]) (N := N_law_names) (sc := defScope s_law_names) (by decide +kernel)) (fun _ _ _ _ _ => (pg_name (i := 5) sc_law_names.nd rfl (Or.inl rfl))) (fun _ _ _ _ _ => (pts_one (pt_cmpR (r := rIn K true) op_notIn_seq (pe_op op_add_str (pv 5) (pe_slice sl_str (pv 4) (po_some pe_int) po_none)) (pv 2) (by rfl)))) (fun _ _ _ _ _ => (pe_op op_add_str (pv 5) (pe_slice sl_str (pv 4) (po_some pe_int) po_none)))) pe_int (fun _ _ => rfl))))
      pss_nil)
      (pss_one (ps_expr (pe_bm PySem.F.plainAttrs_list PySem.F.slot_list_append PySem.F.type_list_append mt_append (pv 2) (pa_cons (pv 4) pa_nil)))))))
      (pss_one (ps_ret (pv 2))))), ?_⟩
    refine ⟨by show 0 ≤ sizeLine; decide, fun l nl => ?_⟩
    generalize hE1 : upd H l _ = H1
    have w1 := new_at hE1
    have s1 := new_same hE1 nl
    have npl := B.ne nl
    refine ⟨_, rfl, _, rfl, by omega, by omega, for_range (lo := 0) (n := (k : Int).toNat) (fun i σ H' => Bag (n + 10 * i) H' p ∧ Kp p H H' ∧ ∃ (xs : List Str) (y1 y2 y3 : Option V), xs.length = i ∧ xs.Nodup ∧ (∀ x ∈ xs, Nm x) ∧ H' l = some (.lst (xs.map V.str)) ∧ σ = [some (.ref p), some (.int k), some (.ref l), y1, y2, y3])
      ⟨B.same s1, Kp.of s1, [], none, none, none, rfl, List.nodup_nil, (fun x hx => nomatch hx), w1, rfl⟩ ?_ ?_⟩
    · rintro i σ H2 hi ⟨B2, k2, xs, y1, y2, y3, hl, hnd, hnm, w2, rfl⟩
      -- word = name(bag)
      refine ⟨_, rfl, p, n + 10 * i, rfl, B2, by omega, fun w H3 hw B3 k3 => ?_⟩
      have w3 := k3 _ _ w2 npl.symm
      -- if word in found
      refine ⟨fun σ H' => Same H3 H' ∧ ∃ (x : Str) (y3 : Option V), Nm x ∧ x ∉ xs ∧ σ = [some (.ref p), some (.int k), some (.ref l), some (.int (0 + (i : Int))), some (.str x), y3], ?_, ?_⟩
      · refine ⟨_, rfl, _, rfl, l, _, rfl, .inl (SqL.of w3), rfl, strs_flat xs, _, rfl, ?_⟩
        rw [inV_str]
        refine ite2 (fun hc => ?_) (fun hc => ?_)
        · refine ⟨_, rfl, fun D nD => ?_⟩
          refine lc_it (walk_str (z := lettersS)) (fun j H' => Same H3 H' ∧ H' D = some (.lst ((((List.range j).map fun i => (⟨#[97 + i]⟩ : Str) ++ tailS w).filter fun x => decide (x ∉ xs)).map V.str))) ⟨same_upd nD, upd_same⟩ (fun _ _ _ _ => trivial) ?_ ?_
          · rintro j x H4 H4' hj ⟨s4, w4⟩ ⟨rfl, c, hc', rfl⟩
            obtain ⟨hj26, rfl⟩ := letters_get hc'
            refine ⟨rfl, ?_⟩
            have hlen : (tailS w).length ≤ 8 := Nat.le_trans (cutS_length _ _ _) hw.2.2
            have ltot : ((⟨#[97 + j]⟩ : Str).length + (tailS w).length) ≤ sizeLine := by
              have h1 : (⟨#[97 + j]⟩ : Str).length = 1 := rfl
              rw [h1]
              exact Nat.le_of_lt (small1000 (by omega))
            refine ⟨_, rfl, _, rfl, _, rfl, w, rfl, Nat.le_trans hw.2.2 (by decide), _, _, rfl, rfl, ltot, _, rfl, l, _, rfl, .inl (SqL.of (s4 _ _ w3)), rfl, strs_flat xs, _, rfl, ?_⟩
            rw [range_map_succ', List.filter_append, List.map_append]
            show if (if true = true then !inV (.str ((⟨#[97 + j]⟩ : Str) ++ tailS w)) (xs.map V.str) else _) = true then _ else _
            rw [if_pos rfl, inV_str]
            by_cases hin : (⟨#[97 + j]⟩ : Str) ++ tailS w ∈ xs
            · rw [decide_eq_true hin]
              refine iteF ⟨s4, ?_⟩
              rw [List.filter_cons_of_neg (p := fun x => decide (x ∉ xs)) (by rw [decide_eq_false (fun z => z hin)]; exact Bool.false_ne_true)]
              rw [List.filter_nil, List.map_nil, List.append_nil]
              exact w4
            · rw [decide_eq_false hin]
              refine iteT ?_
              refine ⟨_, rfl, _, rfl, _, rfl, w, rfl, Nat.le_trans hw.2.2 (by decide), _, _, rfl, rfl, ltot, _, w4, ?_, Same.own (q := D) (H1 := H4') s4 (mut_keep rfl) nD, ?_⟩
              · rw [List.length_map]
                refine Nat.lt_of_le_of_lt (List.length_filter_le _ _) ?_
                rw [List.length_map, List.length_range]
                exact small1000 (by omega)
              · rw [upd_same, List.filter_cons_of_pos (p := fun x => decide (x ∉ xs)) (decide_eq_true hin)]
                rfl
          · rintro H4 ⟨s4, w4⟩
            rw [letters_size] at w4
            obtain ⟨x, hxm, hxf⟩ := free_in (cands_nodup (tailS w)) (ds := xs) (by unfold cands; rw [List.length_map, List.length_range]; omega)
            generalize hF : ((List.range 26).map fun i => (⟨#[97 + i]⟩ : Str) ++ tailS w).filter (fun x => decide (x ∉ xs)) = fs at w4
            have hmem : ∀ z ∈ fs, Nm z ∧ z ∉ xs := fun z hz => by
              rw [← hF] at hz
              obtain ⟨h1, h2⟩ := List.mem_filter.mp hz
              obtain ⟨i, hi, rfl⟩ := List.mem_map.mp h1
              exact ⟨cand_nm hw (List.mem_range.mp hi), of_decide_eq_true h2⟩
            have hx : x ∈ fs := by
              rw [← hF]
              exact List.mem_filter.mpr ⟨hxm, decide_eq_true hxf⟩
            cases fs with
            | nil => cases hx
            | cons z zs =>
              refine ⟨D, _, _, _, rfl, rfl, SqL.of w4, at0, s4, z, _, (hmem z (List.mem_cons_self ..)).1, (hmem z (List.mem_cons_self ..)).2, rfl⟩
        · refine ⟨Same.refl H3, w, _, hw, fun z => hc (decide_eq_true z), rfl⟩
      · rintro σ H4 ⟨s4, x, y3, hx, hxn, rfl⟩
        have w4 := s4 _ _ w3
        refine ⟨_, rfl, .inl ⟨rfl, _, SqL.of w4⟩, _, rfl, l, _, _, rfl, rfl, w4, by rw [List.length_map]; exact small1000 (by omega), ?_⟩
        have B4 := B3.same s4
        refine ⟨(B4.keep (mut_keep rfl) npl).le (by omega), ((k2.trans k3).same s4).own (mut_keep rfl) nl, xs ++ [x], _, _, _, by rw [List.length_append, hl]; rfl, ?_, fun z hz => ?_, by rw [upd_same, List.map_append]; rfl, rfl⟩
        · rw [List.nodup_append]
          exact ⟨hnd, List.nodup_cons.mpr ⟨by simp, List.nodup_nil⟩, fun a ha b hb e => hxn (by rw [List.mem_singleton.mp hb] at e; rw [← e]; exact ha)⟩
        · rcases List.mem_append.mp hz with hz | hz
          · exact hnm z hz
          · rw [List.mem_singleton.mp hz]
            exact hx
    · rintro σ H2 ⟨B2, k2, xs, y1, y2, y3, hl, hnd, hnm, w2, rfl⟩
      exact ⟨_, rfl, q xs l H2 (by omega) hnd hnm nl w2 (B2.le (by omega)) k2⟩

-- SPLIT
/-! ### the least name with both ways -/
abbrev onS : Str := Str.ofString "on"
abbrev offS : Str := Str.ofString "off"
def Both (ds : List (Str × Str)) (x : Str) : Prop := (x, onS) ∈ ds ∧ (x, offS) ∈ ds
def isC (ds : List (Str × Str)) (d : Str × Str) : Bool := decide (d.2 = onS) && decide ((d.1, offS) ∈ ds)
theorem both_mem (ds : List (Str × Str)) (x : Str) : x ∈ (ds.filter (isC ds)).map (·.1) ↔ Both ds x := by
  refine ⟨fun h => ?_, fun h => ?_⟩
  · obtain ⟨d, hd, rfl⟩ := List.mem_map.mp h
    obtain ⟨h1, h2⟩ := List.mem_filter.mp hd
    obtain ⟨h3, h4⟩ := Bool.and_eq_true_iff.mp h2
    have h3 := of_decide_eq_true h3
    refine ⟨?_, of_decide_eq_true h4⟩
    rw [← h3]
    exact h1
  · exact List.mem_map.mpr ⟨(x, onS), List.mem_filter.mpr ⟨h.1, Bool.and_eq_true_iff.mpr ⟨decide_eq_true rfl, decide_eq_true h.2⟩⟩, rfl⟩
theorem ok_off : PyData.strOk offS = true := by decide +kernel
theorem ok_on : PyData.strOk onS = true := by decide +kernel
def sp_clash_in (K : PySem.W.Frag) : Sp := fun vs H Q _ => ∃ (a : Addr) (xs : List V) (ds : List (Str × Str)), vs = [.ref a] ∧ SqL K H a xs ∧ Prs K H xs ds ∧ ds.length ≤ 100 ∧ (∀ d ∈ ds, Ok2 d) ∧
  ∀ o H', Least (Both ds) o → Same H H' → Q (optV o) H'
theorem ok_clash_in (T : Txt K mg) : FnOk P w K mg base CX0 1 (He.fAd K ("clash_in", none)) T.d_clash_in ["demands"] (sp_clash_in K) := by
  refine T.F_clash_in.ok sc_clash_in (fun vs H Q E h => ?_) (fun cdv A outer s H vs Q E hr h => ?_)
  · obtain ⟨a, xs, ds, rfl, _⟩ := h
    rfl
  · obtain ⟨a, xs, ds, rfl, hS, hP, hl, hk, q⟩ := h
    refine ⟨_, PSs.nox (pss_one (ps_ret (pe_callBK (id := "min") (UP.cr_minS rfl hr.units) (by rfl) T.n_min (by decide +kernel) (pa_cons (pe_lc (own := [("name", 1), ("way", 2)]) (g := gTup K 2 (gCons (gName 1) (gCons (gName 2) gNil))) (by rfl) sc_clash_in.nd (pi_list (pv 0)) (blkOk_by (own := [("name", 1), ("way", 2)]) (N := N_clash_in) (sc := defScope s_clash_in) (by decide +kernel)) (fun _ _ _ _ _ => by exact (pg_tup rfl (pgs_cons (pg_name (i := 1) sc_clash_in.nd rfl (Or.inl rfl)) (pgs_cons (pg_name (i := 2) sc_clash_in.nd rfl (Or.inl rfl)) pgs_nil)))) (fun _ _ _ _ _ => (pts_one (PW.pt (pw_and (pt_cmpR op_eq (pv 2) pe_str (nomark _)) (pw_and1 (pt_cmpR (r := rInD K) (op_inD (UP.un65 hr)) (pe_tup (pa_cons (pv 1) (pa_cons pe_str pa_nil))) (pv 0) (by rfl))))))) (fun _ _ _ _ _ => (pv 1))) pa_nil) (pk_cons pe_non pk_nil)))), ?_⟩
    refine ⟨_, rfl, a, rfl, ⟨_, hS⟩, fun D nD => ?_⟩
    refine lc_list (xs := xs) (fun i H' => Same H H' ∧ H' D = some (.lst ((((ds.take i).filter (isC ds)).map (·.1)).map V.str))) ⟨same_upd nD, upd_same⟩ (fun i H' _ h => SqL.ext hS h.1) ?_ ?_
    · rintro i x H2 hi ⟨s2, w2⟩
      obtain ⟨t, d, rfl, hd, ht⟩ := hP.get hi
      refine ⟨t, _, rfl, tup_same s2 ht, rfl, _, _, rfl, _, _, rfl, rfl, rfl, ?_⟩
      rw [take_snoc hd, List.filter_append, List.map_append, List.map_append]
      have dm : d ∈ ds := List.mem_of_getElem? hd
      refine ⟨_, rfl, rfl, _, rfl, ?_⟩
      by_cases c : d.2 = onS
      · rw [show decide (V.str d.2 = V.str onS) = true from decide_eq_true (by rw [c])]
        refine iteT ?_
        refine ⟨_, rfl, by show 2 ≤ sizeLine; decide, fun t2 n2 => ⟨_, rfl, ?_⟩⟩
        have s3 := s2.trans (same_upd (o := .tup [V.str d.1, V.str offS]) n2)
        refine inD2 (d := (d.1, offS)) (SqT.of upd_same) (SqL.ext hS s3) (hP.same s3) ⟨(hk d dm).1, ok_off⟩ hk ⟨_, rfl, ?_⟩
        have w3 := same_upd (o := .tup [V.str d.1, V.str offS]) n2 _ _ w2
        by_cases c2 : (d.1, offS) ∈ ds
        · rw [decide_eq_true c2]
          refine iteT ⟨_, rfl, _, w3, ?_, Same.own (q := D) s3 (mut_keep rfl) nD, ?_⟩
          · rw [List.length_map, List.length_map]
            refine Nat.lt_of_le_of_lt (List.length_filter_le _ _) (Nat.lt_of_le_of_lt (List.length_take_le' ..) (small1000 (by omega)))
          · rw [upd_same, List.filter_cons_of_pos (p := isC ds) (Bool.and_eq_true_iff.mpr ⟨decide_eq_true c, decide_eq_true c2⟩)]
            rfl
        · rw [decide_eq_false c2]
          refine iteF ⟨s3, ?_⟩
          rw [List.filter_cons_of_neg (p := isC ds) (fun z => c2 (of_decide_eq_true (Bool.and_eq_true_iff.mp z).2)), List.filter_nil, List.map_nil, List.map_nil, List.append_nil]
          exact w3
      · rw [show decide (V.str d.2 = V.str onS) = false from decide_eq_false fun z => c (by injection z)]
        refine iteF (iteF ⟨s2, ?_⟩)
        rw [List.filter_cons_of_neg (p := isC ds) (fun z => c (of_decide_eq_true (Bool.and_eq_true_iff.mp z).1)), List.filter_nil, List.map_nil, List.map_nil, List.append_nil]
        exact w2
    · rintro H2 ⟨s2, w2⟩
      rw [List.take_of_length_le (by rw [hP.len]; exact Nat.le_refl _)] at w2
      exact ⟨D, _, rfl, rfl, SqL.of w2, fun o ho => q o H2 (ho.iff (both_mem ds)) s2⟩

-- SPLIT
/-! ### the law's own answer -/
theorem two_ways {ds : List Str} (hn : ds.Nodup) (h : ∀ x ∈ ds, x = onS ∨ x = offS) : ds.length = 2 ↔ onS ∈ ds ∧ offS ∈ ds := by
  have ne : onS ≠ offS := by decide +kernel
  refine ⟨fun e => ?_, fun ⟨h1, h2⟩ => ?_⟩
  · have key : ∀ y z : Str, (∀ x ∈ ds, x = y ∨ x = z) → y ∈ ds := fun y z hx => by
      rcases Classical.em (y ∈ ds) with c | c
      · exact c
      · have := nodup_le ds [z] hn fun x hx' => List.mem_singleton.mpr ((hx x hx').resolve_left fun q => c (q ▸ hx'))
        rw [e] at this
        exact absurd (show 2 ≤ 1 from this) (by decide)
    exact ⟨key onS offS h, key offS onS fun x hx => (h x hx).symm⟩
  · have a := nodup_le [onS, offS] ds (List.nodup_cons.mpr ⟨by rw [List.mem_singleton]; exact ne, List.nodup_cons.mpr ⟨by simp, List.nodup_nil⟩⟩) fun x hx => by
      rcases List.mem_cons.mp hx with e | hx
      · rw [e]; exact h1
      · rw [List.mem_singleton.mp hx]; exact h2
    have b := nodup_le ds [onS, offS] hn fun x hx => by
      rcases h x hx with e | e
      · rw [e]; exact List.mem_cons_self ..
      · rw [e]; exact List.mem_cons_of_mem _ (List.mem_cons_self ..)
    have a' : 2 ≤ ds.length := a
    have b' : ds.length ≤ 2 := b
    omega
theorem pw_from {l : List Str} {i : Nat} {w x : Str} (h : l.Pairwise fun x y => leS x y = true) (hw : l[i]? = some w) (hx : x ∈ l) (hn : x ∉ l.take i) : leS w x = true := by
  obtain ⟨j, hj, rfl⟩ := List.getElem_of_mem hx
  obtain ⟨hi, rfl⟩ := List.getElem?_eq_some_iff.mp hw
  rcases Nat.lt_trichotomy j i with c | c | c
  · exact absurd (by rw [List.mem_take_iff_getElem]; exact ⟨j, by omega, rfl⟩) hn
  · subst c
    exact leS_refl _
  · exact List.pairwise_iff_getElem.mp h i j hi hj c
def Ways (ds : List (Str × Str)) : Prop := ∀ d ∈ ds, d.2 = onS ∨ d.2 = offS
def sp_law_due (K : PySem.W.Frag) : Sp := fun vs H Q _ => ∃ (a : Addr) (xs : List V) (ds : List (Str × Str)), vs = [.ref a] ∧ SqL K H a xs ∧ Prs K H xs ds ∧ ds.length ≤ 60 ∧ Ways ds ∧
  ∀ o H', Least (Both ds) o → Same H H' → Q (optV o) H'
theorem ok_law_due (T : Txt K mg) : FnOk P w K mg base CX0 1 (He.fAd K ("_law_due", none)) T.d_law_due ["_law_some"] (sp_law_due K) := by
  refine T.F_law_due.ok sc_law_due (fun vs H Q E h => ?_) (fun cdv A outer s H vs Q E hr h => ?_)
  · obtain ⟨a, xs, ds, rfl, _⟩ := h
    rfl
  · obtain ⟨a, xs, ds, rfl, hS, hP, hl, hw, q⟩ := h
    refine ⟨_, PSs.nox (pss_cons (ps_for PassesOwn.never rfl (pi_list (pe_callB (id := "sorted")  cr_sortedS (by rfl) T.n_sorted (by decide +kernel) (pa_cons (pe_lc (own := [("_law_word", 1), ("_law_way", 2)]) (g := gTup K 2 (gCons (gName 1) (gCons (gName 2) gNil))) (by rfl) sc_law_due.nd (pi_list (pv 0)) (blkOk_by (own := [("_law_word", 1), ("_law_way", 2)]) (N := N_law_due) (sc := defScope s_law_due) (by decide +kernel)) (fun _ _ _ _ _ => by exact (pg_tup rfl (pgs_cons (pg_name (i := 1) sc_law_due.nd rfl (Or.inl rfl)) (pgs_cons (pg_name (i := 2) sc_law_due.nd rfl (Or.inl rfl)) pgs_nil)))) (fun _ _ _ _ _ => pts_nil) (fun _ _ _ _ _ => (pv 1))) pa_nil))) (pg_name (i := 1) sc_law_due.nd rfl (Or.inr rfl))
      (pss_one (ps_if (pt_cmpR op_eq (pe_callB (id := "len")  UP.cr_lenTx (by rfl) T.n_len (by decide +kernel) (pa_cons (pe_callTy (T := "set")  (UP.cr_setTx rfl) (by rfl) T.n_set (by decide +kernel) (pa_cons (pe_lc (own := [("_law_other", 3), ("_law_way", 2)]) (g := gTup K 2 (gCons (gName 3) (gCons (gName 2) gNil))) (by rfl) sc_law_due.nd (pi_list (pv 0)) (blkOk_by (own := [("_law_other", 3), ("_law_way", 2)]) (N := N_law_due) (sc := defScope s_law_due) (by decide +kernel)) (fun _ _ _ _ _ => by exact (pg_tup rfl (pgs_cons (pg_name (i := 3) sc_law_due.nd rfl (Or.inl rfl)) (pgs_cons (pg_name (i := 2) sc_law_due.nd rfl (Or.inl rfl)) pgs_nil)))) (fun _ _ _ _ _ => (pts_one (pt_cmpR op_eq (pv 3) (pv 1) (nomark _)))) (fun _ _ _ _ _ => (pv 2))) pa_nil)) pa_nil)) pe_int (nomark _))
      (pss_one (ps_ret (pv 1)))
      pss_nil)))
      (pss_one (ps_ret pe_non))), ?_⟩
    -- [word for word, way in some]
    refine ⟨_, rfl, a, rfl, ⟨_, hS⟩, fun D nD => ?_⟩
    refine lc_list (xs := xs) (fun i H' => Same H H' ∧ H' D = some (.lst (((ds.take i).map (·.1)).map V.str))) ⟨same_upd nD, upd_same⟩ (fun i H' _ h => SqL.ext hS h.1) ?_ ?_
    · rintro i x H2 hi ⟨s2, w2⟩
      obtain ⟨t, d, rfl, hd, ht⟩ := hP.get hi
      refine ⟨t, _, rfl, tup_same s2 ht, rfl, _, _, rfl, _, _, rfl, rfl, rfl, yes_of (iteT ?_)⟩
      rw [take_snoc hd, List.map_append, List.map_append]
      refine ⟨_, rfl, _, w2, ?_, Same.own (q := D) s2 (mut_keep rfl) nD, upd_same⟩
      rw [List.length_map, List.length_map]
      exact Nat.lt_of_le_of_lt (List.length_take_le' ..) (small1000 (by omega))
    rintro H2 ⟨s2, w2⟩
    rw [List.take_of_length_le (by rw [hP.len]; exact Nat.le_refl _)] at w2
    generalize hns : ds.map (·.1) = ns at w2
    have nl : ns.length ≤ 60 := by rw [← hns, List.length_map]; exact hl
    refine ⟨D, ns, rfl, SqL.of w2, by omega, fun ys p hp hs np => ?_⟩
    obtain rfl := srt_of hp hs
    generalize hE : upd H2 p _ = H3
    have w3 := new_at hE
    have s3 := s2.trans (new_same hE np)
    refine ⟨p, rfl, ⟨_, SqL.of w3⟩, for_list (xs := (srt ns).map V.str) (fun i σ H' => Same H3 H' ∧ (∀ x ∈ (srt ns).take i, ¬ Both ds x) ∧ ∃ y1 y2 y3 : Option V, σ = [some (.ref a), y1, y2, y3])
      ⟨Same.refl _, (fun x hx => nomatch hx), none, none, none, rfl⟩ (fun i σ H' _ h => SqL.of (h.1 _ _ w3)) ?_ ?_⟩
    · rintro i x σ H4 hi ⟨s4, no, y1, y2, y3, rfl⟩
      obtain ⟨word, hword, rfl⟩ := map_str_get hi
      have s34 := s3.trans s4
      -- the ways of the word
      refine ⟨_, rfl, a, rfl, ⟨_, SqL.ext hS s34⟩, fun D2 nD2 => ?_⟩
      refine lc_list (xs := xs) (fun j H' => Same H4 H' ∧ H' D2 = some (.lst ((((ds.take j).filter fun d => decide (d.1 = word)).map (·.2)).map V.str))) ⟨same_upd nD2, upd_same⟩ (fun j H' _ h => SqL.ext hS (s34.trans h.1)) ?_ ?_
      · rintro j x H5 hj ⟨s5, w5⟩
        obtain ⟨t, d, rfl, hd, ht⟩ := hP.get hj
        refine ⟨t, _, rfl, tup_same (s34.trans s5) ht, rfl, _, _, rfl, _, _, rfl, rfl, rfl, ?_⟩
        rw [take_snoc hd, List.filter_append, List.map_append, List.map_append]
        refine ⟨_, rfl, _, rfl, rfl, _, rfl, ?_⟩
        by_cases c : d.1 = word
        · rw [show decide (V.str d.1 = V.str word) = true from decide_eq_true (by rw [c])]
          refine iteT ⟨_, rfl, _, w5, ?_, Same.own (q := D2) s5 (mut_keep rfl) nD2, ?_⟩
          · rw [List.length_map, List.length_map]
            exact Nat.lt_of_le_of_lt (List.length_filter_le _ _) (Nat.lt_of_le_of_lt (List.length_take_le' ..) (small1000 (by omega)))
          · rw [upd_same, List.filter_cons_of_pos (p := fun d : Str × Str => decide (d.1 = word)) (decide_eq_true c)]
            rfl
        · rw [show decide (V.str d.1 = V.str word) = false from decide_eq_false fun z => c (by injection z)]
          refine iteF ⟨s5, ?_⟩
          rw [List.filter_cons_of_neg (p := fun d : Str × Str => decide (d.1 = word)) (fun z => c (of_decide_eq_true z)), List.filter_nil, List.map_nil, List.map_nil, List.append_nil]
          exact w5
      rintro H5 ⟨s5, w5⟩
      rw [List.take_of_length_le (by rw [hP.len]; exact Nat.le_refl _)] at w5
      have mem : ∀ x, x ∈ (ds.filter fun d => decide (d.1 = word)).map (·.2) ↔ (word, x) ∈ ds := fun x => by
        refine ⟨fun h => ?_, fun h => List.mem_map.mpr ⟨(word, x), List.mem_filter.mpr ⟨h, decide_eq_true rfl⟩, rfl⟩⟩
        obtain ⟨d, hd, rfl⟩ := List.mem_map.mp h
        obtain ⟨h1, h2⟩ := List.mem_filter.mp hd
        rw [← of_decide_eq_true h2]
        exact h1
      have wl : ((ds.filter fun d => decide (d.1 = word)).map (·.2)).length ≤ 60 := by
        rw [List.length_map]
        exact Nat.le_trans (List.length_filter_le _ _) hl
      generalize (ds.filter fun d => decide (d.1 = word)).map (·.2) = ws at w5 mem wl
      refine ⟨D2, ws, rfl, SqL.of w5, by omega, fun p2 us np2 und umem => ?_⟩
      have ul : us.length ≤ ws.length := nodup_le us ws und fun x hx => (umem x).mp hx
      refine ⟨p2, _, _, rfl, upd_same, by omega, rfl, _, rfl, ?_⟩
      have two := two_ways und fun x hx => hw (word, x) ((mem x).mp ((umem x).mp hx))
      have both : us.length = 2 ↔ Both ds word := by
        rw [two, umem, umem, mem, mem]
        exact Iff.rfl
      have s6 := s5.trans (same_upd (o := SetK P w p2 (keyIn us) us.length) np2)
      by_cases c : us.length = 2
      · rw [decide_eq_true (show V.int (us.length : Int) = V.int 2 by rw [c]; rfl)]
        refine iteT ⟨_, rfl, q (some word) _ ⟨both.mp c, fun x hx => ?_⟩ (s34.trans s6)⟩
        have hx' : x ∈ srt ns := by
          rw [srt_mem, ← hns]
          exact List.mem_map.mpr ⟨_, hx.1, rfl⟩
        exact pw_from (srt_pw ns) hword hx' fun z => no x z hx
      · rw [decide_eq_false (show ¬ V.int (us.length : Int) = V.int 2 from fun z => c (by injection z with z; omega))]
        refine iteF ⟨s4.trans s6, fun x hx => ?_, _, _, _, rfl⟩
        rw [take_snoc hword] at hx
        rcases List.mem_append.mp hx with hx | hx
        · exact no x hx
        · rw [List.mem_singleton.mp hx]
          exact fun z => c (both.mpr z)
    · rintro σ H4 ⟨s4, no, y1, y2, y3, rfl⟩
      refine q none H4 (fun x hx => ?_) (s3.trans s4)
      refine no x ?_ hx
      rw [List.length_map, List.take_length, srt_mem, ← hns]
      exact List.mem_map.mpr ⟨_, hx.1, rfl⟩

-- SPLIT
/-! ### the law -/
theorem Least.rev {ds : List (Str × Str)} {o : Option Str} (h : Least (Both ds.reverse) o) : Least (Both ds) o := h.iff fun x => by
  unfold Both
  rw [List.mem_reverse, List.mem_reverse]
def sp_law (K : PySem.W.Frag) : Sp := fun vs H Q _ => ∃ (a : Addr) (ns : List Int), vs = [.ref a] ∧ SqL K H a (ns.map V.int) ∧ ns.length ≤ 63 ∧ ∀ H', Q (.bl true) H'
theorem ok_law (T : Txt K mg) : FnOk P w K mg base CX0 4 (He.fAd K ("law", none)) T.d_law ["_law_script"] (sp_law K) := by
  refine T.F_law.ok sc_law (fun vs H Q E h => ?_) (fun cdv A outer s H vs Q E hr h => ?_)
  · obtain ⟨a, ns, rfl, _⟩ := h
    rfl
  · obtain ⟨a, ns, rfl, hS, hlen, q⟩ := h
    refine ⟨_, PSs.nox (pss_cons (ps_for PassesOwn.never rfl (pi_range1 (by rfl) T.n_range (pa_cons (pe_callB (id := "max")  (call_max2 rfl) (by rfl) T.n_max (by decide +kernel) (pa_cons pe_int (pa_cons (pe_callB (id := "min")  (call_min2 rfl) (by rfl) T.n_min (by decide +kernel) (pa_cons pe_int (pa_cons (pe_callB (id := "len")  call_len_seq (by rfl) T.n_len (by decide +kernel) (pa_cons (pv 0) pa_nil)) pa_nil))) pa_nil))) pa_nil)) (pg_name (i := 1) sc_law.nd rfl (Or.inl rfl))
      (pss_cons (ps_set (i := 2) sc_law.nd rfl (Or.inl rfl) (pe_call (ok_law_bag T) (hr.mono (by decide)) (by rfl) T.m_law_bag T.F_law_bag.kp T.b_law_bag .nil pass0 (pa_cons (pv 0) (pa_cons (pv 1) pa_nil))))
      (pss_cons (ps_set (i := 3) sc_law.nd rfl (Or.inl rfl) (pe_call (ok_law_names T) (hr.mono (by decide)) (by rfl) T.m_law_names T.F_law_names.kp T.b_law_names .nil pass0 (pa_cons (pv 2) (pa_cons (pe_op op_add pe_int (pe_call (ok_law_take T) (hr.mono (by decide)) (by rfl) T.m_law_take T.F_law_take.kp T.b_law_take .nil pass0 (pa_cons (pv 2) (pa_cons pe_int pa_nil)))) pa_nil))))
      (pss_cons (ps_set (i := 4) sc_law.nd rfl (Or.inl rfl) (pe_ix ix_list (pe_lst (pa_cons pe_int (pa_cons pe_int (pa_cons pe_int pa_nil)))) (pe_call (ok_law_take T) (hr.mono (by decide)) (by rfl) T.m_law_take T.F_law_take.kp T.b_law_take .nil pass0 (pa_cons (pv 2) (pa_cons pe_int pa_nil))) (fun _ _ => rfl)))
      (pss_cons (ps_set (i := 5) sc_law.nd rfl (Or.inl rfl) (pe_lst pa_nil))
      (pss_cons (ps_for PassesOwn.never rfl (pi_range1 (by rfl) T.n_range (pa_cons (pe_call (ok_law_take T) (hr.mono (by decide)) (by rfl) T.m_law_take T.F_law_take.kp T.b_law_take .nil pass0 (pa_cons (pv 2) (pa_cons pe_int pa_nil))) pa_nil)) (pg_name (i := 6) sc_law.nd rfl (Or.inl rfl))
      (pss_cons (ps_set (i := 7) sc_law.nd rfl (Or.inl rfl) (pe_mid (pe_ifExp (pt_cmpR op_eq (pe_call (ok_law_take T) (hr.mono (by decide)) (by rfl) T.m_law_take T.F_law_take.kp T.b_law_take .nil pass0 (pa_cons (pv 2) (pa_cons (pv 4) pa_nil))) pe_int (nomark _)) pe_str pe_str)))
      (pss_one (ps_expr (pe_bm PySem.F.plainAttrs_list PySem.F.slot_list_append PySem.F.type_list_append mt_append (pv 5) (pa_cons (pe_tup (pa_cons (pe_ix ix_list (pv 3) (pe_call (ok_law_take T) (hr.mono (by decide)) (by rfl) T.m_law_take T.F_law_take.kp T.b_law_take .nil pass0 (pa_cons (pv 2) (pa_cons (pe_callB (id := "len")  call_len_seq (by rfl) T.n_len (by decide +kernel) (pa_cons (pv 3) pa_nil)) pa_nil))) (fun _ _ => rfl)) (pa_cons (pv 7) pa_nil))) pa_nil))))))
      (pss_cons (ps_set (i := 8) sc_law.nd rfl (Or.inl rfl) (pe_callTy (T := "list")  call_list_of (by rfl) T.n_list (by decide +kernel) (pa_cons (pv 5) pa_nil)))
      (pss_cons (ps_if (PW.pt (pw_or (pt_cmpR op_ne (pe_call (ok_clash_in T) (hr.mono (by decide)) (by rfl) T.m_clash_in T.F_clash_in.kp T.b_clash_in .nil pass0 (pa_cons (pv 8) pa_nil)) (pe_call (ok_law_due T) (hr.mono (by decide)) (by rfl) T.m_law_due T.F_law_due.kp T.b_law_due .nil pass0 (pa_cons (pv 5) pa_nil)) (nomark _)) (pw_or (pt_cmpR (op_neD hr.units) (pv 8) (pv 5) (nomark _)) (pw_or1 (pt_cmpR op_ne (pe_callN0 (ok_clash_in T) (hr.mono (by decide)) (by rfl) T.m_clash_in T.F_clash_in.kp T.kb_clash_in_0_demands.choose_spec pass0 (pk_cons (pe_revL (pv 5)) pk_nil)) (pe_call (ok_law_due T) (hr.mono (by decide)) (by rfl) T.m_law_due T.F_law_due.kp T.b_law_due .nil pass0 (pa_cons (pv 5) pa_nil)) (nomark _))))))
      (pss_one (ps_ret pe_bl))
      pss_nil)
      (pss_cons (ps_set (i := 9) sc_law.nd rfl (Or.inl rfl) (pe_ix ix_list (pv 3) (pe_call (ok_law_take T) (hr.mono (by decide)) (by rfl) T.m_law_take T.F_law_take.kp T.b_law_take .nil pass0 (pa_cons (pv 2) (pa_cons (pe_callB (id := "len")  call_len_seq (by rfl) T.n_len (by decide +kernel) (pa_cons (pv 3) pa_nil)) pa_nil))) (fun _ _ => rfl)))
      (pss_cons (ps_expr (pe_bm PySem.F.plainAttrs_list PySem.F.slot_list_extend PySem.F.type_list_extend mt_extend (pv 8) (pa_cons (pe_lst (pa_cons (pe_tup (pa_cons (pv 9) (pa_cons pe_str pa_nil))) (pa_cons (pe_tup (pa_cons (pv 9) (pa_cons pe_str pa_nil))) pa_nil))) pa_nil)))
      (pss_one (ps_if (pt_cmpR op_ne (pe_call (ok_clash_in T) (hr.mono (by decide)) (by rfl) T.m_clash_in T.F_clash_in.kp T.b_clash_in .nil pass0 (pa_cons (pv 8) pa_nil)) (pe_call (ok_law_due T) (hr.mono (by decide)) (by rfl) T.m_law_due T.F_law_due.kp T.b_law_due .nil pass0 (pa_cons (pv 8) pa_nil)) (nomark _))
      (pss_one (ps_ret pe_bl))
      pss_nil))))))))))))
      (pss_one (ps_ret (pe_cmpR op_isN (pe_call (ok_clash_in T) (hr.mono (by decide)) (by rfl) T.m_clash_in T.F_clash_in.kp T.b_clash_in .nil pass0 (pa_cons (pe_lst pa_nil) pa_nil)) pe_non (nomark _))))), ?_⟩
    refine ⟨_, rfl, a, _, rfl, .inl hS, _, _, rfl, _, _, rfl, _, rfl, ?_, ?_, for_range (lo := 0) (fun i σ H' => Same H H' ∧ ∃ y1 y2 y3 y4 y5 y6 y7 y8 y9, σ = [some (.ref a), y1, y2, y3, y4, y5, y6, y7, y8, y9]) ⟨Same.refl H, _, _, _, _, _, _, _, _, _, rfl⟩ ?_ ?_⟩
    · split <;> split <;> omega
    · split <;> split <;> omega
    · rintro i σ H1 hi ⟨s1, y1, y2, y3, y4, y5, y6, y7, y8, y9, rfl⟩
      have hi9 : i < 10 := by
        rw [List.length_map] at hi
        revert hi
        split <;> split <;> omega
      have hS1 := s1.seq hS
      -- bag, words
      refine ⟨_, rfl, _, rfl, a, ns, i, by rw [Int.zero_add]; rfl, hS1, by omega, fun p H2 np s2 B2 => ?_⟩
      refine ⟨_, rfl, _, rfl, ?_⟩
      refine take_of (z := 12) B2 (by decide) (by decide) (by omega) fun r3 H3 a3 b3 B3 k3 => ?_
      obtain ⟨j3, rfl⟩ := Int.eq_ofNat_of_zero_le a3
      refine ⟨_, _, rfl, rfl, p, 1 + j3, 1, rfl, B3, by omega, by omega, fun ws l H4 hwl hwn hwm nl wl B4 k4 => ?_⟩
      have nlp : l ≠ p := fun e => by
        obtain ⟨o, ho⟩ := B3.some
        rw [e, ho] at nl
        cases nl
      have wpos : 0 < ws.length := by omega
      -- often
      refine ⟨by show 3 ≤ sizeLine; decide, fun l1 n1 => ⟨_, rfl, ?_⟩⟩
      refine pick_menu [V.int (2 : Int), V.int (8 : Int), V.int (40 : Int)] B4 (by omega) n1 rfl (by decide) (by decide) fun zv H5 hz B5 k5 => ?_
      obtain ⟨z, rfl, z0, z1⟩ : ∃ z : Int, zv = .int z ∧ 0 < z ∧ z ≤ 40 := by
        simp only [List.mem_cons, List.not_mem_nil, or_false] at hz
        rcases hz with rfl | rfl | rfl
        · exact ⟨2, rfl, by decide, by decide⟩
        · exact ⟨8, rfl, by decide, by decide⟩
        · exact ⟨40, rfl, by decide, by decide⟩
      have wl5 := k5 _ _ wl nlp
      -- some = []
      refine ⟨by show 0 ≤ sizeLine; decide, fun so nso => ?_⟩
      generalize hE6 : upd H5 so _ = H6
      have wso := new_at hE6
      have s6 := new_same hE6 nso
      have npso := B5.ne nso
      have nlso : l ≠ so := ne_some wl5 nso
      have B6 := B5.same s6
      have wl6 := s6 _ _ wl5
      refine ⟨_, rfl, ?_⟩
      refine take_of (z := 41) B6 (by decide) (by decide) (by omega) fun r7 H7 a7 b7 B7 k7 => ?_
      obtain ⟨j7, rfl⟩ := Int.eq_ofNat_of_zero_le a7
      have kB : Kp p H2 H5 := (k3.trans k4).trans k5
      have nso2 : H2 so = none := kB.free nso npso.symm
      refine ⟨j7, rfl, by omega, by omega, for_range (lo := 0) (n := (j7 : Int).toNat) (fun j σ H' => Bag (200 + 2 * j) H' p ∧ Kp p H2 H' ∧ H' l = some (.lst (ws.map V.str)) ∧ ∃ (xs : List V) (ds : List (Str × Str)) (y6 y7 : Option V), H' so = some (.lst xs) ∧ Prs K H' xs ds ∧ ds.length = j ∧ Ways ds ∧ (∀ d ∈ ds, Ok2 d) ∧
          σ = [some (.ref a), some (.int (0 + (i : Int))), some (.ref p), some (.ref l), some (.int z), some (.ref so), y6, y7, y8, y9])
        ⟨B7.le (by omega), (kB.same s6).trans k7, k7 _ _ wl6 nlp, [], [], _, _, k7 _ _ wso npso.symm, .nil, rfl, (fun d hd => nomatch hd), (fun d hd => nomatch hd), rfl⟩ ?_ ?_⟩
      · rintro j σ H8 hj ⟨B8, k8, wl8, xs, ds, y6, y7, wso8, hP, hl, hw, hk, rfl⟩
        -- way
        refine ⟨fun v H' => (v = .str onS ∨ v = .str offS) ∧ Bag (200 + 2 * j + 1) H' p ∧ Kp p H8 H', ?_, ?_⟩
        · refine ⟨_, rfl, _, rfl, ?_⟩
          refine take_of (z := z) B8 z0 (by omega) (by omega) fun r9 H9 a9 b9 B9 k9 => ?_
          refine ⟨rfl, _, rfl, ?_⟩
          refine ite2 (fun _ => ?_) (fun _ => ?_)
          · exact ⟨.inr rfl, B9, k9⟩
          · exact ⟨.inl rfl, B9, k9⟩
        rintro wv H9 ⟨hwv, B9, k9⟩
        obtain ⟨way, rfl, hway⟩ : ∃ x : Str, wv = .str x ∧ (x = onS ∨ x = offS) := by
          rcases hwv with e | e
          · exact ⟨_, e, .inl rfl⟩
          · exact ⟨_, e, .inr rfl⟩
        have wl9 := k9 _ _ wl8 nlp
        have wso9 := k9 _ _ wso8 npso.symm
        have hP9 := hP.keep k9 B8.notTp
        -- some.append(..)
        refine ⟨_, rfl, .inl ⟨rfl, _, SqL.of wso9⟩, _, rfl, _, rfl, _, rfl, l, _, rfl, .inl (SqL.of wl9), ?_⟩
        refine take_of (z := ((ws.map V.str).length : Int)) B9 (by rw [List.length_map]; omega) (by rw [List.length_map]; omega) (by omega) fun r10 H10 a10 b10 B10 k10 => ?_
        rw [List.length_map] at b10
        obtain ⟨word, hword, eword⟩ := menu_str (zs := ws) a10 b10
        have wso10 := k10 _ _ wso9 npso.symm
        have hP10 := hP9.keep k10 B9.notTp
        refine ⟨l, _, _, _, rfl, rfl, SqL.of (k10 _ _ wl9 nlp), eword, _, rfl, by show 2 ≤ sizeLine; decide, fun t nt => ?_⟩
        generalize hE11 : upd H10 t _ = H11
        have wt := new_at hE11
        have s11 := new_same hE11 nt
        have wso11 := s11 _ _ wso10
        refine ⟨so, _, _, rfl, rfl, wso11, by rw [hP.len]; exact small1000 (by omega), ?_⟩
        generalize hE12 : upd H11 so _ = H12
        have wso12 := new_at hE12
        have m12 := mut_keep hE12
        have hP12 : Prs K H12 (xs ++ [.ref t]) (ds ++ [(word, way)]) := ((hP10.same s11).keep m12 (.lst wso11)).app (.one (d := (word, way)) (m12.tup (.lst wso11) (SqT.of wt)))
        have mem : ∀ d ∈ ds ++ [(word, way)], d ∈ ds ∨ d = (word, way) := fun d hd => (List.mem_append.mp hd).imp id List.mem_singleton.mp
        refine ⟨((B10.same s11).keep m12 npso).le (by omega), ((((k8.trans k9).trans k10).same s11).own m12 nso2), m12 _ _ (s11 _ _ (k10 _ _ wl9 nlp)) nlso, _, _, _, _, wso12, hP12, by rw [List.length_append, hl]; rfl, fun d hd => ?_, fun d hd => ?_, rfl⟩
        · rcases mem d hd with hd | rfl
          · exact hw d hd
          · exact hway
        · rcases mem d hd with hd | rfl
          · exact hk d hd
          · refine ⟨(hwm word hword).ok, ?_⟩
            rcases hway with e | e
            · rw [e]; exact ok_on
            · rw [e]; exact ok_off
      rintro σ H8 ⟨B8, k8, wl8, xs, ds, y6, y7, wso8, hP, hl, hw, hk, rfl⟩
      have dl : ds.length ≤ 40 := by omega
      -- handed = list(some)
      refine ⟨_, rfl, so, _, rfl, .inl (SqL.of wso8), fun h nh => ?_⟩
      generalize hE9 : upd H8 h _ = H9
      have wh := new_at hE9
      have s9 := new_same hE9 nh
      have nph := B8.ne nh
      have wso9 := s9 _ _ wso8
      have hP9 := hP.same s9
      -- if ..
      refine ⟨_, rfl, h, xs, ds, rfl, SqL.of wh, hP9, by omega, hk, fun o1 H10 ho1 s10 => ?_⟩
      refine ⟨_, rfl, so, xs, ds, rfl, SqL.of (s10 _ _ wso9), hP9.same s10, by omega, hw, fun o2 H11 ho2 s11 => ?_⟩
      obtain rfl := ho1.uniq ho2
      refine ⟨scal_optV _ _, _, rfl, neF ?_⟩
      have s911 := s10.trans s11
      refine ⟨_, rfl, _, rfl, neD2 (SqL.of (s911 _ _ wh)) (hP9.same s911) (SqL.of (s911 _ _ wso9)) (hP9.same s911) hk hk ⟨_, rfl, ?_⟩⟩
      rw [decide_eq_true (rfl : ds = ds)]
      refine iteF ?_
      refine ⟨_, rfl, so, _, rfl, SqL.of (s911 _ _ wso9), fun rv nrv => ?_⟩
      generalize hE12 : upd H11 rv _ = H12
      have wrv := new_at hE12
      have s12 := s911.trans (new_same hE12 nrv)
      refine ⟨rfl, rfl, rv, _, ds.reverse, rfl, SqL.of wrv, (hP9.same s12).rev, by rw [List.length_reverse]; omega, fun d hd => hk d (List.mem_reverse.mp hd), fun o3 H13 ho3 s13 => ?_⟩
      have s13b := s12.trans s13
      refine ⟨_, rfl, so, xs, ds, rfl, SqL.of (s13b _ _ wso9), hP9.same s13b, by omega, hw, fun o4 H14 ho4 s14 => ?_⟩
      obtain rfl := (Least.rev ho3).uniq ho4
      refine ⟨scal_optV _ _, _, rfl, neF ?_⟩
      have sA := s9.trans (s13b.trans s14)
      have B14 := B8.same sA
      have wl14 := sA _ _ wl8
      have wh14 := s14 _ _ (s13b _ _ wh)
      -- both
      refine ⟨_, rfl, _, rfl, _, rfl, l, _, rfl, .inl (SqL.of wl14), ?_⟩
      refine take_of (z := ((ws.map V.str).length : Int)) B14 (by rw [List.length_map]; omega) (by rw [List.length_map]; omega) (by omega) fun r15 H15 a15 b15 B15 k15 => ?_
      rw [List.length_map] at b15
      obtain ⟨word, hword, eword⟩ := menu_str (zs := ws) a15 b15
      refine ⟨l, _, _, _, rfl, rfl, SqL.of (k15 _ _ wl14 nlp), eword, ?_⟩
      have wh15 := k15 _ _ wh14 nph.symm
      have hP15 := (hP.same sA).keep k15 B14.notTp
      -- handed.extend(..)
      refine ⟨_, rfl, .inl ⟨rfl, _, SqL.of wh15⟩, _, rfl, by show 2 ≤ sizeLine; decide, fun t1 n1 => ?_⟩
      generalize hE16 : upd H15 t1 _ = H16
      have wt1 := new_at hE16
      have s16 := new_same hE16 n1
      refine ⟨_, rfl, by show 2 ≤ sizeLine; decide, fun t2 n2 => ?_⟩
      generalize hE17 : upd H16 t2 _ = H17
      have wt2 := new_at hE17
      have s17 := new_same hE17 n2
      refine ⟨by show 2 ≤ sizeLine; decide, fun lb nlb => ?_⟩
      generalize hE18 : upd H17 lb _ = H18
      have wlb := new_at hE18
      have s18 := new_same hE18 nlb
      have s1618 := s16.trans (s17.trans s18)
      have wh18 := s1618 _ _ wh15
      refine ⟨h, lb, _, _, rfl, rfl, wh18, wlb, ?_, ?_⟩
      · have := hP.len
        exact Nat.le_of_lt (small1000 (by rw [this]; show ds.length + 2 ≤ 1000; omega))
      generalize hE19 : upd H18 h _ = H19
      have wh19 := new_at hE19
      have m19 := mut_keep hE19
      have nth := NotTp.lst wh18
      have hP19 : Prs K H19 (xs ++ [.ref t1, .ref t2]) (ds ++ [(word, offS), (word, onS)]) := ((hP15.same s1618).keep m19 nth).app (.cons (d := (word, offS)) (m19.tup nth (SqT.of (s18 _ _ (s17 _ _ wt1)))) (.one (d := (word, onS)) (m19.tup nth (SqT.of (s18 _ _ wt2)))))
      have mem : ∀ d ∈ ds ++ [(word, offS), (word, onS)], d ∈ ds ∨ d = (word, offS) ∨ d = (word, onS) := fun d hd => (List.mem_append.mp hd).imp id fun z => (List.mem_cons.mp z).imp id List.mem_singleton.mp
      have hk19 : ∀ d ∈ ds ++ [(word, offS), (word, onS)], Ok2 d := fun d hd => by
        rcases mem d hd with hd | rfl | rfl
        · exact hk d hd
        · exact ⟨(hwm word hword).ok, ok_off⟩
        · exact ⟨(hwm word hword).ok, ok_on⟩
      have hw19 : Ways (ds ++ [(word, offS), (word, onS)]) := fun d hd => by
        rcases mem d hd with hd | rfl | rfl
        · exact hw d hd
        · exact .inr rfl
        · exact .inl rfl
      have hl19 : (ds ++ [(word, offS), (word, onS)]).length ≤ 42 := by
        rw [List.length_append]
        show ds.length + 2 ≤ 42
        omega
      generalize ds ++ [(word, offS), (word, onS)] = es at hP19 hk19 hw19 hl19
      refine ⟨_, rfl, h, _, es, rfl, SqL.of wh19, hP19, by omega, hk19, fun o5 H20 ho5 s20 => ?_⟩
      refine ⟨_, rfl, h, _, es, rfl, SqL.of (s20 _ _ wh19), hP19.same s20, by omega, hw19, fun o6 H21 ho6 s21 => ?_⟩
      obtain rfl := ho5.uniq ho6
      refine ⟨scal_optV _ _, _, rfl, neF ?_⟩
      -- the next turn
      have kC : Kp p H2 H18 := ((k8.same sA).trans k15).same s1618
      have nhH2 : H2 h = none := k8.free nh nph.symm
      have sZ : Same H1 H19 := Same.own (Same.own s2 kC np) m19 ?_
      · exact ⟨s1.trans (sZ.trans (s20.trans s21)), _, _, _, _, _, _, _, _, _, rfl⟩
      · exact s2.free nhH2
    · rintro σ H1 ⟨s1, y1, y2, y3, y4, y5, y6, y7, y8, y9, rfl⟩
      refine ⟨by show 0 ≤ sizeLine; decide, fun e ne => ⟨e, [], [], rfl, SqL.of upd_same, .nil, by decide, (fun d hd => nomatch hd), fun o H2 ho s2 => ⟨rfl, ?_⟩⟩⟩
      cases o with
      | none => exact q _
      | some m => exact absurd ho.1.1 (by simp)

end
theorem kb_clash_in_0_demands_mk {K : PySem.W.Frag} {f : Addr} {fd : FuncData} (F : FunD K "clash_in" "clash_in" (defArgs s_clash_in) (defBody s_clash_in) (defScope s_clash_in) [] [] f fd) : ∃ gg, KBn K fd ["demands"] 0 ["demands"] gg (fun us ws => us ++ (ws.drop 0).take 1) := by
  obtain ⟨oc, od, dV, kV, doc, pm, an, cdv, ct, osl, rfl, lk, hcd, hD, hK⟩ := F.ex
  rcases hD with ⟨_, rfl⟩ | ⟨e, _⟩
  · refine ⟨fun us ws => us ++ (ws.drop 0).take 1, ⟨fun s us ws X l1 l2 => ?_, fun r1 r3 => (r1.append (vals_take ((r3).drop 0) 1))⟩⟩
    match us, ws, l1, l2 with | [], [_], _, _ => exact .of_eq rfl
  · exact absurd rfl e
def dd_clash_in : He.DefD := ⟨("clash_in", none), "clash_in", "clash_in", defArgs s_clash_in, defBody s_clash_in, defScope s_clash_in, [], []⟩
def dd_law_bag : He.DefD := ⟨("_law_bag", none), "_law_bag", "_law_bag", defArgs s_law_bag, defBody s_law_bag, defScope s_law_bag, [], []⟩
def dd_law_take : He.DefD := ⟨("_law_take", none), "_law_take", "_law_take", defArgs s_law_take, defBody s_law_take, defScope s_law_take, [], []⟩
def dd_law_name : He.DefD := ⟨("_law_name", none), "_law_name", "_law_name", defArgs s_law_name, defBody s_law_name, defScope s_law_name, [], []⟩
def dd_law_names : He.DefD := ⟨("_law_names", none), "_law_names", "_law_names", defArgs s_law_names, defBody s_law_names, defScope s_law_names, [], []⟩
def dd_law_due : He.DefD := ⟨("_law_due", none), "_law_due", "_law_due", defArgs s_law_due, defBody s_law_due, defScope s_law_due, [], []⟩
def dd_law : He.DefD := ⟨("law", none), "law", "law", defArgs s_law, defBody s_law, defScope s_law, [], []⟩
def fn : List He.DefD := [dd_clash_in, dd_law_bag, dd_law_take, dd_law_name, dd_law_names, dd_law_due, dd_law]
def fa : List He.Fa := [.glo "clash_in", .glo "_law_bag", .glo "_law_take", .glo "_law_name", .glo "_law_names", .glo "_law_due", .glo "law", .free "min", .free "abs", .free "len", .free "int", .free "range", .free "sorted", .free "set", .free "max", .free "list"]
abbrev R : PySem.W.OpenRow := PySem.W.OpenLaw.row PySem.Challenge.rw_unitwants_k16_clashes
abbrev hk : PySem.W.Hook := He.hookD 6 fa fn
def ob (s : PySem.W.SharedT) : He.AlD := He.obsDG 6 fa fn (HandSHeadRun.getT s)
theorem ob_eq (s : PySem.W.SharedT) : ob s = hk.obs s.abs := He.obsDG_eq (HandSHeadRun.getT_eq s)
set_option maxHeartbeats 0 in
theorem run (w : World) : HandSHeadRun.RunEq R (PySem.W.view R.prog [8]) hk ob 4000 ["clash_in", "_law_bag", "_law_take", "_law_name", "_law_names", "_law_due"] w := by
  intro os
  kernel_rfl
theorem facts {P : Program} {w : World} {K : PySem.W.Frag} {h : Heap} {mg : Str → Option Value} {f : Addr} (X : K.In h) (G : h.Ns mainGlobals mg) (hfa : mg ("law" : Str) = some (.ref f)) (c : He.SaysD fa fn K) :
    ∃ fd : FuncData, (∀ (s : Shared) (v : Value), BindsTo s fd ⟨[v], []⟩ [("_law_script", v)]) ∧ ∀ base : Heap, K.In base → base.Ns mainGlobals mg → FnOk P w K mg base CX0 4 f fd ["_law_script"] (sp_law K) := by
  obtain ⟨d0, F0⟩ := c.def_ 0 (d := dd_clash_in) rfl
  obtain ⟨d1, F1⟩ := c.def_ 1 (d := dd_law_bag) rfl
  obtain ⟨d2, F2⟩ := c.def_ 2 (d := dd_law_take) rfl
  obtain ⟨d3, F3⟩ := c.def_ 3 (d := dd_law_name) rfl
  obtain ⟨d4, F4⟩ := c.def_ 4 (d := dd_law_names) rfl
  obtain ⟨d5, F5⟩ := c.def_ 5 (d := dd_law_due) rfl
  obtain ⟨d6, F6⟩ := c.def_ 6 (d := dd_law) rfl
  let T : Txt K mg := {
    d_clash_in := d0
    F_clash_in := F0
    b_clash_in := FunD.bindsN (ps := ["demands"]) F0 fun _ _ _ _ _ _ us hl => match us, hl with | [_], _ => rfl
    d_law_bag := d1
    F_law_bag := F1
    b_law_bag := FunD.bindsN (ps := ["_law_script", "_law_at"]) F1 fun _ _ _ _ _ _ us hl => match us, hl with | [_, _], _ => rfl
    d_law_take := d2
    F_law_take := F2
    b_law_take := FunD.bindsN (ps := ["_law_bag_here", "_law_size"]) F2 fun _ _ _ _ _ _ us hl => match us, hl with | [_, _], _ => rfl
    d_law_name := d3
    F_law_name := F3
    b_law_name := FunD.bindsN (ps := ["_law_bag_here"]) F3 fun _ _ _ _ _ _ us hl => match us, hl with | [_], _ => rfl
    d_law_names := d4
    F_law_names := F4
    b_law_names := FunD.bindsN (ps := ["_law_bag_here", "_law_size"]) F4 fun _ _ _ _ _ _ us hl => match us, hl with | [_, _], _ => rfl
    d_law_due := d5
    F_law_due := F5
    b_law_due := FunD.bindsN (ps := ["_law_some"]) F5 fun _ _ _ _ _ _ us hl => match us, hl with | [_], _ => rfl
    d_law := d6
    F_law := F6
    b_law := FunD.bindsN (ps := ["_law_script"]) F6 fun _ _ _ _ _ _ us hl => match us, hl with | [_], _ => rfl
    m_clash_in := He.glo_ok X G (c.fact 0 (f := .glo "clash_in") rfl)
    m_law_bag := He.glo_ok X G (c.fact 1 (f := .glo "_law_bag") rfl)
    m_law_take := He.glo_ok X G (c.fact 2 (f := .glo "_law_take") rfl)
    m_law_name := He.glo_ok X G (c.fact 3 (f := .glo "_law_name") rfl)
    m_law_names := He.glo_ok X G (c.fact 4 (f := .glo "_law_names") rfl)
    m_law_due := He.glo_ok X G (c.fact 5 (f := .glo "_law_due") rfl)
    m_law := He.glo_ok X G (c.fact 6 (f := .glo "law") rfl)
    n_min := He.free_ok X G (c.fact 7 (f := .free "min") rfl)
    n_abs := He.free_ok X G (c.fact 8 (f := .free "abs") rfl)
    n_len := He.free_ok X G (c.fact 9 (f := .free "len") rfl)
    n_int := He.free_ok X G (c.fact 10 (f := .free "int") rfl)
    n_range := He.free_ok X G (c.fact 11 (f := .free "range") rfl)
    n_sorted := He.free_ok X G (c.fact 12 (f := .free "sorted") rfl)
    n_set := He.free_ok X G (c.fact 13 (f := .free "set") rfl)
    n_max := He.free_ok X G (c.fact 14 (f := .free "max") rfl)
    n_list := He.free_ok X G (c.fact 15 (f := .free "list") rfl)
    kb_clash_in_0_demands := kb_clash_in_0_demands_mk F0 }
  have e := hfa.symm.trans T.m_law
  cases e
  have b := FunD.bindsA (ps := ["_law_script"]) T.F_law fun _ _ _ _ _ _ us hl => match us, hl with | [_], _ => rfl
  exact ⟨T.d_law, fun s v => b s [v] rfl, fun base _ _ => ok_law T⟩
end K16
open PySem PySem.W PySem.Calls PyProof.Rows
set_option maxRecDepth 100000 in
set_option maxHeartbeats 0 in
theorem PySem.Challenge.cw_unitwants_k16_clashes_holds : PySem.Challenge.rw_unitwants_k16_clashes.Holds := by
  w_on; o_law
  refine HandSHeadRun.head_any (r := OpenLaw.row PySem.Challenge.rw_unitwants_k16_clashes) (q := view (OpenLaw.row PySem.Challenge.rw_unitwants_k16_clashes).prog [8]) (H := K16.hk) (ob := K16.ob) (M := 4000) (loose := ["clash_in", "_law_bag", "_law_take", "_law_name", "_law_names", "_law_due"]) (d := HandSHeadRun.topDef (OpenLaw.row PySem.Challenge.rw_unitwants_k16_clashes).prog 8) (kwd := []) K16.ob_eq
    (by kernel_rfl) (fun s => by kernel_rfl) K16.run (by kernel_rfl) (by kernel_rfl) (by kernel_rfl) (by rfl) (by first | assumption | decide +kernel) (by decide +kernel) ⟨rfl, rfl, rfl, rfl, rfl, by decide +kernel⟩ ?hw ?hc
  case hw => w_witness2
  case hc =>
    refine L2.walk_ofE (l := PySem.Challenge.rw_unitwants_k16_clashes) (n := 63) (k := 4) (x := "_law_script") (CX := L2.CX0) rfl (by decide) (by kernel_rfl) ⟨rfl, by decide, by decide⟩ ?F (fun _ _ _ _ z => z)
    intro w mg fa h Y G hmg0
    obtain ⟨K, KX, c⟩ := Y
    have hmg : mg ("law" : PySem.Str) = some (.ref fa) := by
      have e : (HandSHeadRun.topDef (OpenLaw.row PySem.Challenge.rw_unitwants_k16_clashes).prog 8).name = ("law" : PySem.Str) := by kernel_rfl
      rw [← e]
      exact hmg0
    obtain ⟨fd, hb, hF⟩ := K16.facts (P := (PySem.Challenge.rw_unitwants_k16_clashes).prog) (w := w) KX G hmg c
    exact ⟨K, fd, K16.sp_law K, KX, hb, fun H a ns hl _ hS => ⟨a, ns, rfl, hS, hl, fun _ => rfl⟩, hF⟩
