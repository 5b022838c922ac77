import PyProof.Rows.All
import Wide.All
import OpenK.AllK
import Wide.FinOn
import KE.KStateDown
import HandS.ForMost
import HandS.More
import HandS.WordsExc
import HandS.Defaults
import HandS.MakeKwOnly
import HandS.IsInst
import HandS.FStr
import HandS.Walk
import HandS.TupAny
import HandS.SortKw
import HandS.OwnEq
import KE.KFmtOwn
import KE.DataMinMax
import KE.DatumOrd
import KE.SortData
import HandS.Deep
import HandS.SetKeys
import HandS.DictComp
import HandS.Conv
import HandS.Style
import HandS.Evl
import HandS.Head0
import HandS.Head1
import HandS.Head2
import HandS.HeadEnd
import HandS.HeadHook1
import HandS.HeadHook2
import PySem.Challenge.RW_unitwants_k18_stands_equal
set_option Elab.async false
set_option linter.all false
set_option maxRecDepth 100000
set_option maxHeartbeats 4000000
/-! own layer: heaps, rules that lacked, the bag of draws -/
namespace UW
open PySem PySem.Spec PyProof.Rows L2

/-! ### heaps -/
theorem same_upd {H : Hp} {p : Addr} {o : HO} (h : H p = none) : Same H (upd H p o) := fun b x e => by
  rw [upd_ne (ne_of_none e h)]
  exact e
theorem new_at {H H2 : Hp} {p : Addr} {o : HO} (e : upd H p o = H2) : H2 p = some o := by
  rw [← e]
  exact upd_same
theorem new_same {H H2 : Hp} {p : Addr} {o : HO} (e : upd H p o = H2) (h : H p = none) : Same H H2 := by
  rw [← e]
  exact same_upd h
/-- all but p is as it was -/
def Kp (p : Addr) (H H' : Hp) : Prop := ∀ c o, H c = some o → c ≠ p → H' c = some o
theorem Kp.refl (p : Addr) (H : Hp) : Kp p H H := fun _ _ h _ => h
theorem Kp.trans {p : Addr} {H H1 H2 : Hp} (a : Kp p H H1) (b : Kp p H1 H2) : Kp p H H2 := fun c o h n => b c o (a c o h n) n
theorem Kp.of {p : Addr} {H H' : Hp} (s : Same H H') : Kp p H H' := fun c o h _ => s c o h
theorem Kp.same {p : Addr} {H H1 H2 : Hp} (a : Kp p H H1) (b : Same H1 H2) : Kp p H H2 := a.trans (.of b)
theorem mut_keep {H H2 : Hp} {p : Addr} {o : HO} (e : upd H p o = H2) : Kp p H H2 := fun c x h n => by
  rw [← e, upd_ne n]
  exact h
/-- an object that H did not know has changed -/
theorem Kp.own {p q : Addr} {H H1 H2 : Hp} (a : Kp p H H1) (b : Kp q H1 H2) (n : H q = none) : Kp p H H2 := fun c o h m => b c o (a c o h m) (ne_of_none h n)
theorem Same.own {q : Addr} {H H1 H2 : Hp} (a : Same H H1) (b : Kp q H1 H2) (n : H q = none) : Same H H2 := fun c o h => b c o (a c o h) (ne_of_none h n)
theorem Kp.free {p q : Addr} {H H' : Hp} (a : Kp p H H') (h : H' q = none) (n : q ≠ p) : H q = none := by
  cases e : H q with
  | none => rfl
  | some o =>
    rw [a q o e n] at h
    cases h
theorem Kp.seq {K : PySem.W.Frag} {p a : Addr} {H H' : Hp} {xs : List V} (k : Kp p H H') (n : a ≠ p) (h : SqL K H a xs) : SqL K H' a xs := by
  rcases h with (h | ⟨o, h⟩) | h
  · exact .inl (.inl (k _ _ h n))
  · exact .inl (.inr ⟨o, k _ _ h n⟩)
  · exact .inr h
theorem ne_some {H : Hp} {a b : Addr} {o : HO} (h : H a = some o) (n : H b = none) : a ≠ b := fun e => by
  rw [e, n] at h
  cases h

/-! ### rules that lacked -/
section
variable {X : Cx}
def CPowL (i j : Int) : Prop := 0 ≤ j ∧ j ≤ 100 ∧ i.natAbs < 2 ^ 1000
theorem op_powL : OpR X (binaryOp .Pow) (rI CPowL fun i j => .int (i ^ j.toNat)) := opI fun i j _ _ _ _ _ hc q => by
  obtain ⟨h1, h2, h3⟩ := hc
  have b := intBits_le h3
  refine pow_int h1 ?_ q
  have b' : (Builtin.Int.intBits i : Int) ≤ 1000 := by exact_mod_cast b
  have b0 : (0 : Int) ≤ (Builtin.Int.intBits i : Int) := Int.natCast_nonneg _
  have := Int.mul_le_mul b' h2 h1 (by decide)
  exact Int.le_trans this (by decide)
def ipC (C : Int → Int → Prop) (f : Int → Int → Int) : TIp := fun x y H Q => ∃ i j, x = .int i ∧ y = .int j ∧ C i j ∧ Q (.int (f i j)) H
theorem ip_mul : PIp X .Mult (ipC CMul fun i j => i * j) := by
  intro pins s σ H x y v u Q I r1 r2 h
  obtain ⟨i, j, e1, e2, hc, q⟩ := h
  subst e1; subst e2
  obtain ⟨t, rfl⟩ := r1
  obtain ⟨t', rfl⟩ := r2
  exact imul_int ⟨.int _, H, I.tok _, ⟨_, rfl⟩, q⟩ hc.ok
theorem vals_take {vs : List V} {us : List Value} (h : Vals vs us) : ∀ n, Vals (vs.take n) (us.take n) := by
  induction h with
  | nil => intro n; rw [List.take_nil, List.take_nil]; exact .nil
  | cons r _ ih =>
    intro n
    cases n with
    | zero => exact .nil
    | succ n => exact .cons r (ih n)
/-- f(k = v, ..) -/
theorem pe_callN0 {CX : CXT} {k : Nat} {f : Addr} {fd : FuncData} {ps ks : List Str} {sp : Sp} {E : XK} {x : Str} {p pos : Pos} {kws : List Keyword} {tk : TA} {g : List Value → List Value → List Value} {gV : List V → List V → List V}
    (F : FnOk X.prog X.w X.K X.mg X.base CX k f fd ps sp) (hr : Room k X.A) (hg : Gl X x) (hm : X.mg x = some (.ref f)) (hk : PySem.W.keepIn X.K (.ref f) = true) (hb : KBn X.K fd ps 0 ks g gV) (hx : Passes CX X E) (hkw : PK X kws tk)
    (hall : (backToKw pos (keywordEach kws X.env)).all (·.1.isSome) = true := by rfl) (hks : (backToKw pos (keywordEach kws X.env)).filterMap (·.1) = ks := by rfl) (hdb : (x == ("__debug__" : Str)) = false := by decide)
    (hpl : ((backTo pos (starEach [] X.env)).any (·.1) || (backToKw pos (keywordEach kws X.env)).any (·.1.isNone)) = false := by rfl) :
    PE X (.Call (.Name x p) [] kws pos) (tCallN 0 ks.length sp gV E tNil tk) := by
  refine ⟨fun pins s σ H Q I h => ?_⟩
  refine wpAny_Call_Name_kw (ld_glob I hg hm ?_ hdb)
  refine PySem.W.callWith_KW0 (h₀ := X.base) I.ok.mod.kin hk hall ?_ hpl
  refine thn (hkw.run pos pins s σ H _ I h) fun ws s2 ⟨zs, H2, I2, rz, l1, l2, q2⟩ => ⟨I2.kIn, ?_⟩
  rw [hks]
  exact run_fnN (us := []) (vs := []) F hr hb hx I2 .nil rz rfl l2 q2
end

/-! ### the bag of draws -/
structure Bag (n : Nat) (H : Hp) (p : Addr) : Prop where
  ex : ∃ a b c : Int, H p = some (.lst [.int a, .int b, .int c]) ∧ 0 ≤ a ∧ 0 ≤ b ∧ b < 2 ^ 64 ∧ 0 ≤ c ∧ c ≤ n
theorem Bag.le {n m : Nat} {H : Hp} {p : Addr} (b : Bag n H p) (h : n ≤ m) : Bag m H p := by
  obtain ⟨a, x, c, h1, h2, h3, h4, h5, h6⟩ := b.ex
  exact ⟨a, x, c, h1, h2, h3, h4, h5, by omega⟩
theorem Bag.same {n : Nat} {H H' : Hp} {p : Addr} (b : Bag n H p) (s : Same H H') : Bag n H' p := by
  obtain ⟨a, x, c, h1, h⟩ := b.ex
  exact ⟨a, x, c, s _ _ h1, h⟩
theorem Bag.keep {n : Nat} {H H' : Hp} {p q : Addr} (b : Bag n H p) (s : Kp q H H') (ne : p ≠ q) : Bag n H' p := by
  obtain ⟨a, x, c, h1, h⟩ := b.ex
  exact ⟨a, x, c, s _ _ h1 ne, h⟩
theorem Bag.ne {n : Nat} {H : Hp} {p q : Addr} (b : Bag n H p) (h : H q = none) : p ≠ q := by
  obtain ⟨a, x, c, h1, _⟩ := b.ex
  exact ne_some h1 h
theorem Bag.some {n : Nat} {H : Hp} {p : Addr} (b : Bag n H p) : ∃ o, H p = some o := by
  obtain ⟨a, x, c, h1, _⟩ := b.ex
  exact ⟨_, h1⟩
/-- the five numbers of a rule within their bounds -/
structure Five (f m t b s : Int) : Prop where
  f1 : 1 ≤ f
  f2 : f ≤ 1000
  m1 : 1 ≤ m
  m2 : m ≤ 10
  t1 : 1 ≤ t
  t2 : t ≤ 1000000
  b1 : 0 ≤ b
  b2 : b ≤ 20
  s1 : 0 ≤ s
  s2 : s ≤ 1000000
end UW
namespace UW
open PySem L2
/-- for i, x in enumerate(xs), both names plain -/
theorem for_enum2 {K : PySem.W.Frag} {a : Addr} {xs : List V} {i j : Nat} {tb : TS} {D : Ends} {σ : St} {H : Hp} (Pv : Nat → St → Hp → Prop) (h0 : Pv 0 σ H) (hl : ∀ k σ H, k ≤ xs.length → Pv k σ H → SqL K H a xs)
    (hs : ∀ k x σ H H2, xs[k]? = some x → Pv k σ H → Same H H2 → tb { D with nx := Pv (k + 1), ct := Pv (k + 1), bk := D.nx } ((σ.set i (some (.int (k : Nat)))).set j (some x)) H2) (hd : ∀ σ H, Pv xs.length σ H → D.nx σ H) :
    ∃ W : Nat → Nat → St → Hp → Prop, (∃ m, W 0 m σ H) ∧ ∀ k m σ H, W k m σ H →
      ((Ite K a).stop k H ∧ D.nx σ H) ∨ ((Ite K a).go k H ∧ ∃ N : St → Hp → Prop, (∀ σ' H', N σ' H' → ∃ m', m' < m ∧ W (k + 1) m' σ' H') ∧ ∀ x H', (Ite K a).yld k H x H' → gTup K 2 (gCons (gName i) (gCons (gName j) gNil)) x σ H' fun σ2 H2 => tb { D with nx := N, ct := N, bk := D.nx } σ2 H2) := by
  refine for_it walk_enum Pv h0 hl (fun k v σ H H' hk p y => ?_) hd
  obtain ⟨T, x, y, rfl, nT, rfl, e1, e2⟩ := y
  cases e1
  exact ⟨T, _, rfl, .inl (.inl upd_same), rfl, _, _, rfl, _, _, rfl, rfl, hs k y σ H _ e2 p (same_upd nT)⟩
/-- one item of a short list by its place -/
theorem at0 {α : Type} {a : α} {r : List α} : atI (a :: r) 0 = some a := atI_nat (j := 0) rfl
theorem at1 {α : Type} {a b : α} {r : List α} : atI (a :: b :: r) 1 = some b := atI_nat (j := 1) rfl
theorem at2 {α : Type} {a b c : α} {r : List α} : atI (a :: b :: c :: r) 2 = some c := atI_nat (j := 2) rfl
theorem at3 {α : Type} {a b c d : α} {r : List α} : atI (a :: b :: c :: d :: r) 3 = some d := atI_nat (j := 3) rfl
theorem at4 {α : Type} {a b c d e : α} {r : List α} : atI (a :: b :: c :: d :: e :: r) 4 = some e := atI_nat (j := 4) rfl
end UW
namespace UW
open PySem L2
theorem bag_made {H : Hp} {p : Addr} {c k : Int} {b : Bool} (h0 : 0 ≤ k) (h1 : k ≤ 1000) : Bag 0 (upd H p (.lst [.int ((if c < 0 then -c else c) * (if b = true then 1 else 0)), .int (c % (10 ^ (18 : Int).toNat + 9) + 1299709 * k), .int 0])) p := by
  refine ⟨_, _, _, upd_same, ?_, ?_, ?_, Int.le_refl _, Int.le_refl _⟩
  · have : (0 : Int) ≤ if c < 0 then -c else c := by split <;> omega
    cases b
    · simp
    · simpa using this
  · have e : (10 ^ (18 : Int).toNat + 9 : Int) = 1000000000000000009 := by decide
    rw [e]
    omega
  · have e : (10 ^ (18 : Int).toNat + 9 : Int) = 1000000000000000009 := by decide
    rw [e]
    omega
end UW
namespace UW
open PySem L2
theorem cmul_b {i : Int} {b : Bool} : CMul i (if b = true then 1 else 0) := by
  cases b
  · exact .inr ⟨by decide, by decide⟩
  · exact .inr ⟨by decide, by decide⟩
theorem pow10 {j : Int} (h0 : 0 ≤ j := by decide) (h1 : j ≤ 100 := by decide) : CPowL 10 j :=
  ⟨h0, h1, Nat.lt_of_lt_of_le (show (10 : Int).natAbs < 2 ^ 4 by decide) (Nat.pow_le_pow_right (by decide) (by decide))⟩
/-- the primes of a draw -/
abbrev primes : List V := [.int 2147483647, .int 2147483629, .int 2147483587, .int 2147483579, .int 2147483563, .int 2147483549, .int 2147483543, .int 2147483497]
theorem prime_at (c : Int) : ∃ p : Int, atI primes (c % 8) = some (.int p) ∧ 0 < p ∧ p < 2147483648 := by
  have h0 : 0 ≤ c % 8 := Int.emod_nonneg _ (by decide)
  have h1 : c % 8 < 8 := Int.emod_lt_of_pos _ (by decide)
  generalize c % 8 = d at h0 h1
  obtain ⟨k, rfl⟩ := Int.eq_ofNat_of_zero_le h0
  have hk : k < 8 := by omega
  match k, hk with
  | 0, _ => exact ⟨_, atI_nat (j := 0) rfl, by decide, by decide⟩
  | 1, _ => exact ⟨_, atI_nat (j := 1) rfl, by decide, by decide⟩
  | 2, _ => exact ⟨_, atI_nat (j := 2) rfl, by decide, by decide⟩
  | 3, _ => exact ⟨_, atI_nat (j := 3) rfl, by decide, by decide⟩
  | 4, _ => exact ⟨_, atI_nat (j := 4) rfl, by decide, by decide⟩
  | 5, _ => exact ⟨_, atI_nat (j := 5) rfl, by decide, by decide⟩
  | 6, _ => exact ⟨_, atI_nat (j := 6) rfl, by decide, by decide⟩
  | 7, _ => exact ⟨_, atI_nat (j := 7) rfl, by decide, by decide⟩
theorem basis_small {b c : Int} (h0 : 0 ≤ b) (h1 : b < 2 ^ 64) (h2 : 0 ≤ c) (h3 : c < 2000000000) : (b * (2 * c + 1) + 7919 * c * c + 29).natAbs < 2 ^ 1000 := by
  have e1 : b * (2 * c + 1) ≤ 2 ^ 64 * (2 * 2000000000 + 1) := Int.mul_le_mul (by omega) (by omega) (by omega) (by decide)
  have e2 : 7919 * c * c ≤ 7919 * 2000000000 * 2000000000 := Int.mul_le_mul (by omega) (by omega) h2 (by decide)
  have e3 : 0 ≤ b * (2 * c + 1) := Int.mul_nonneg h0 (by omega)
  have e4 : 0 ≤ 7919 * c * c := Int.mul_nonneg (by omega) h2
  refine Nat.lt_of_lt_of_le (m := 2 ^ 200) ?_ (Nat.pow_le_pow_right (by decide) (by decide))
  have e5 : b * (2 * c + 1) + 7919 * c * c + 29 < 2 ^ 200 := by
    have : (2 ^ 64 * (2 * 2000000000 + 1) + 7919 * 2000000000 * 2000000000 + 29 : Int) < 2 ^ 200 := by decide
    omega
  omega
end UW
namespace UW
open PySem L2
/-- a draw: a number from 0 to below a size; the bag alone has changed -/
@[irreducible] def spTake : Sp := fun vs H Q _ => ∃ (p : Addr) (z : Int) (n : Nat), vs = [.ref p, .int z] ∧ Bag n H p ∧ 0 < z ∧ z < 1073741824 ∧ n < 1000000000 ∧
  ∀ (r : Int) H', 0 ≤ r → r < z → Bag (n + 1) H' p → Kp p H H' → Q (.int r) H'
theorem take_of {H : Hp} {p : Addr} {n : Nat} {z : Int} {Q : VK} {E : XK} (B : Bag n H p) (h0 : 0 < z) (h1 : z < 1073741824) (hn : n < 1000000000)
    (q : ∀ (r : Int) H', 0 ≤ r → r < z → Bag (n + 1) H' p → Kp p H H' → Q (.int r) H') : spTake [.ref p, .int z] H Q E := by
  unfold spTake
  exact ⟨p, z, n, rfl, B, h0, h1, hn, q⟩
theorem take_un {vs : List V} {H : Hp} {Q : VK} {E : XK} (h : spTake vs H Q E) : ∃ (p : Addr) (z : Int) (n : Nat), vs = [.ref p, .int z] ∧ Bag n H p ∧ 0 < z ∧ z < 1073741824 ∧ n < 1000000000 ∧
    ∀ (r : Int) H', 0 ≤ r → r < z → Bag (n + 1) H' p → Kp p H H' → Q (.int r) H' := by
  unfold spTake at h
  exact h
/-- take(bag, [z1, ..][take(bag, k)]), the menu just laid at l -/
theorem take_menu {K : PySem.W.Frag} {H : Hp} {p l : Addr} {n : Nat} {zs : List Int} {k : Int} {Q : VK} {E E' : XK} (B : Bag n H p) (hn : n < 900000000) (hl : H l = none) (hk : k = (zs.length : Int)) (hz0 : 0 < zs.length) (hz1 : zs.length < 1000) (hz : ∀ z ∈ zs, 0 < z ∧ z < 1073741824)
    (q : ∀ (z r : Int) H', z ∈ zs → 0 ≤ r → r < z → Bag (n + 2) H' p → Kp p H H' → Q (.int r) H') :
    spTake [.ref p, .int k] (upd H l (.lst (zs.map V.int))) (fun v H2 => rIxL K (.ref l) v H2 fun w H3 => spTake [.ref p, w] H3 Q E) E' := by
  subst hk
  generalize hE : upd H l _ = H1
  have k1 := new_at hE
  have s1 := new_same hE hl
  have npl := B.ne hl
  refine take_of (B.same s1) (by omega) (by omega) (by omega) fun r H2 r0 r1 B2 kp2 => ?_
  obtain ⟨j, rfl⟩ := Int.eq_ofNat_of_zero_le r0
  have hj : j < zs.length := by omega
  have hm : zs[j] ∈ zs := List.getElem_mem hj
  refine ⟨l, _, _, .int zs[j], rfl, rfl, SqL.of (kp2 _ _ k1 npl.symm), atI_nat (by rw [List.getElem?_map, List.getElem?_eq_getElem hj]; rfl), ?_⟩
  refine take_of B2 (hz _ hm).1 (hz _ hm).2 (by omega) fun r2 H3 q0 q1 B3 kp3 => ?_
  exact q _ r2 H3 hm q0 q1 B3 ((Kp.of s1).trans (kp2.trans kp3))
end UW
namespace UW
open PySem L2
section
variable {X : Cx}
/-- a statement, then the rest, with a word between -/
def tMid (t u : TS) : TS := fun D σ H => ∃ M : L2.St → Hp → Prop, t { D with nx := M } σ H ∧ ∀ σ' H', M σ' H' → u D σ' H'
theorem pss_mid {st : Stmt} {rest : List Stmt} {t u : TS} (h1 : PS X st t) (h2 : PSs X rest u) : PSs X (st :: rest) (tMid t u) := by
  refine ⟨fun pins s σ H D I h => ?_⟩
  obtain ⟨M, hm, hu⟩ := h
  refine wpAny_execs_cons (thn (h1.run pins s σ H { D with nx := M } I hm) fun f s1 q => ?_)
  cases f with
  | next =>
    obtain ⟨σ', H', I', q⟩ := q
    exact h2.run pins s1 σ' H' D I' (hu σ' H' q)
  | ret v => exact q
  | brk => exact q
  | cont => exact q
/-- an expression with a word behind it -/
def tMidE (t : TE) : TE := fun σ H Q => ∃ M : VK, t σ H M ∧ ∀ v H', M v H' → Q v H'
theorem pe_mid {e : Expr} {t : TE} (h : PE X e t) : PE X e (tMidE t) := by
  refine ⟨fun pins s σ H Q I ⟨M, hm, hq⟩ => ?_⟩
  exact thn (h.run pins s σ H M I hm) fun u s1 ⟨v, H', I', r, q⟩ => ⟨v, H', I', r, hq v H' q⟩
def tMidT (t : TT) : TT := fun σ H Q => ∃ M : Bool → Hp → Prop, t σ H M ∧ ∀ b H', M b H' → Q b H'
theorem pt_mid {e : Expr} {t : TT} (h : PT X e t) : PT X e (tMidT t) := by
  refine ⟨fun pins s σ H Q I ⟨M, hm, hq⟩ => ?_⟩
  exact thn (h.run pins s σ H M I hm) fun b s1 ⟨H', I', q⟩ => ⟨H', I', hq b H' q⟩
end
end UW
namespace UW
theorem iteY {c A B : Prop} [Decidable c] (hc : c) (h : A) : if c then A else B := by
  rw [if_pos hc]
  exact h
theorem iteN {c A B : Prop} [Decidable c] (hc : ¬ c) (h : B) : if c then A else B := by
  rw [if_neg hc]
  exact h
theorem iteYd {c A B : Prop} [Decidable c] (hc : c) (h : A) : if decide c = true then A else B := iteY (decide_eq_true hc) h
theorem iteNd {c A B : Prop} [Decidable c] (hc : ¬ c) (h : B) : if decide c = true then A else B := iteN (fun z => hc (of_decide_eq_true z)) h
end UW
namespace UW
open PySem L2
/-- None, truths, ints -/
def flatN : V → Bool
  | .non => true
  | .bl _ => true
  | .int _ => true
  | _ => false
def flatD : V → PyData
  | .non => .none
  | .bl b => .bool b
  | .int i => .int i
  | _ => .none
theorem dp_flat {K : PySem.W.Frag} {H : Hp} {v : V} (h : flatN v = true) : Dp K H v (flatD v) := by
  cases v with
  | non => exact .non
  | bl b => exact .bl b
  | int i => exact .int i
  | _ => cases h
theorem dpAll_flat {K : PySem.W.Frag} {H : Hp} : ∀ {xs : List V}, (∀ v ∈ xs, flatN v = true) → DpAll K H xs (xs.map flatD)
  | [], _ => .nil
  | v :: vs, h => .cons (dp_flat (h v (List.mem_cons_self ..))) (dpAll_flat fun x hx => h x (List.mem_cons_of_mem _ hx))
theorem lay_flat (v : V) : PyData.canLay0 (flatD v) = true ∧ PyData.depth (flatD v) = 0 := by
  cases v <;> exact ⟨by simp only [flatD, PyData.canLay0], by simp only [flatD, PyData.depth]⟩
theorem layAll_flat : ∀ xs : List V, PyData.canLayAll0 (xs.map flatD) = true ∧ PyData.depthAll (xs.map flatD) = 0
  | [] => ⟨by simp only [List.map_nil, PyData.canLayAll0], by simp only [List.map_nil, PyData.depthAll]⟩
  | v :: vs => by
    obtain ⟨a, b⟩ := lay_flat v
    obtain ⟨c, d⟩ := layAll_flat vs
    rw [List.map_cons]
    exact ⟨by simp only [PyData.canLayAll0, a, c, Bool.and_self], by simp only [PyData.depthAll, b, d, Nat.max_self]⟩
theorem shaped_flat (xs : List V) : SeqAt.shaped (.list (xs.map flatD)) = true := by
  obtain ⟨c, d⟩ := layAll_flat xs
  unfold SeqAt.shaped
  simp only [PyData.canLay0, PyData.depth, c, d]
  decide
theorem neD_same {K : PySem.W.Frag} {H : Hp} {a b : Addr} {xs : List V} {Q : VK} (h1 : SqL K H a xs) (h2 : SqL K H b xs) (hf : ∀ v ∈ xs, flatN v = true) (q : Q (.bl false) H) : rNeD K (.ref a) (.ref b) H Q := by
  refine ⟨_, _, .lst h1 (dpAll_flat hf), .lst h2 (dpAll_flat hf), shaped_flat xs, shaped_flat xs, ?_⟩
  have e : PyData.eqv (.list (xs.map flatD)) (.list (xs.map flatD)) = true := SeqAt.eqv_refl _ (by simp only [PyData.canLay0]; exact (layAll_flat xs).1)
  rw [e]
  exact q
end UW
namespace UW
open PySem L2
theorem yes_of {σ : L2.St} {H : Hp} {Q : Bool → Hp → Prop} (h : Q true H) : tYes σ H Q := h
end UW
namespace UW
open PySem L2
/-- max(xs, default=d) of ints: some int -/
def rMaxD (K : PySem.W.Frag) : List V → List V → Hp → VK → Prop := fun vs zs H Q => ∃ (a : Addr) (ns : List Int) (d : Int), vs = [.ref a] ∧ zs = [.int d] ∧ SqL K H a (ns.map V.int) ∧ ∀ m : Int, Q (.int m) H
theorem ints_flatD (ns : List Int) : (ns.map V.int).map flatD = ns.map PyData.int := by
  rw [List.map_map]
  rfl
theorem cr_maxD {X : Cx} (hc : X.calm = true) (hu : X.A.units + 64 < cLine) : CallRK X (.builtin "max") [Str.ofString "default"] (rMaxD X.K) := by
  intro pins s σ H vs zs us ws Q I r rz h
  obtain ⟨a, ns, d, rfl, rfl, hs, q⟩ := h
  obtain ⟨its, rv, hl, _⟩ := I.list hs
  rw [Vals.ref1 r]
  obtain ⟨w1, rfl, t1, rfl⟩ := vals1 rz
  obtain ⟨as, hr⟩ := Dp.readsAll I ((ns.map V.int).map flatD) _ _ (dpAll_flat (K := X.K) (H := H) (xs := ns.map V.int) fun v hv => by
    obtain ⟨i, _, rfl⟩ := List.mem_map.mp hv
    rfl) rv
  have hd := (layAll_flat (ns.map V.int)).2
  refine PySem.W.max_list_default (I.ok.hd hc) hl.isList (vs := its.toArray) hr ⟨?_, ?_⟩ (by rw [hd]; omega) (fun _ h' tk hk => ⟨.int d, H, I.kept hk, ⟨_, rfl⟩, q d⟩) fun y ys i v h' tk bs _ hi _ hk => ?_
  · rw [ints_flatD]
    intro x hx y hy
    obtain ⟨i, _, rfl⟩ := List.mem_map.mp hx
    obtain ⟨j, _, rfl⟩ := List.mem_map.mp hy
    simp only [PySem.W.alike]
  · rw [ints_flatD]
    intro x hx
    obtain ⟨i, _, rfl⟩ := List.mem_map.mp hx
    intro z
    cases z
  · have hv : ∃ n t, v = .int n t := by
      have hi' : its[i]? = some v := by rw [← List.getElem?_toArray]; exact hi
      have : ∀ (vs : List V) (us : List Value) (i : Nat) (v : Value), Vals vs us → us[i]? = some v → ∃ x, vs[i]? = some x ∧ RelV x v := by
        intro vs us i v r
        induction r generalizing i with
        | nil => intro h; simp at h
        | cons r1 _ ih =>
          intro h
          cases i with
          | zero => cases h; exact ⟨_, rfl, r1⟩
          | succ i => exact ih i h
      obtain ⟨x, hx, rx⟩ := this _ _ _ _ rv hi'
      rw [List.getElem?_map] at hx
      cases e : ns[i]? with
      | none => rw [e] at hx; cases hx
      | some n =>
        rw [e] at hx
        cases hx
        obtain ⟨t, rfl⟩ := rx
        exact ⟨n, t, rfl⟩
    obtain ⟨n, t, rfl⟩ := hv
    exact ⟨.int n, H, I.kept hk, ⟨_, rfl⟩, q n⟩
end UW
namespace UW
open PySem L2
theorem ints_flat' (ts : List Int) : ∀ v ∈ ts.map V.int, flatN v = true := fun v hv => by
  obtain ⟨i, _, rfl⟩ := List.mem_map.mp hv
  rfl
theorem eqvAll_len : ∀ xs ys : List PyData, xs.length ≠ ys.length → PyData.eqvAll xs ys = false
  | [], [], h => absurd rfl h
  | [], _ :: _, _ => by simp only [PyData.eqvAll]
  | _ :: _, [], _ => by simp only [PyData.eqvAll]
  | x :: xs, y :: ys, h => by
    simp only [PyData.eqvAll]
    rw [eqvAll_len xs ys (fun e => h (by rw [List.length_cons, List.length_cons, e])), Bool.and_false]
theorem neD_diff {K : PySem.W.Frag} {H : Hp} {a b : Addr} {xs ys : List V} {Q : VK} (h1 : SqL K H a xs) (h2 : SqL K H b ys) (hf : ∀ v ∈ xs, flatN v = true) (hg : ∀ v ∈ ys, flatN v = true) (hl : xs.length ≠ ys.length) (q : Q (.bl true) H) : rNeD K (.ref a) (.ref b) H Q := by
  refine ⟨_, _, .lst h1 (dpAll_flat hf), .lst h2 (dpAll_flat hg), shaped_flat xs, shaped_flat ys, ?_⟩
  have e : PyData.eqv (.list (xs.map flatD)) (.list (ys.map flatD)) = false := by
    simp only [PyData.eqv]
    exact eqvAll_len _ _ (by rw [List.length_map, List.length_map]; exact hl)
  rw [e]
  exact q
theorem eqD_same {K : PySem.W.Frag} {H : Hp} {a b : Addr} {xs : List V} {Q : VK} (h1 : SqL K H a xs) (h2 : SqL K H b xs) (hf : ∀ v ∈ xs, flatN v = true) (q : Q (.bl true) H) : rEqD K (.ref a) (.ref b) H Q := by
  refine ⟨_, _, .lst h1 (dpAll_flat hf), .lst h2 (dpAll_flat hf), shaped_flat xs, shaped_flat xs, ?_⟩
  have e : PyData.eqv (.list (xs.map flatD)) (.list (xs.map flatD)) = true := SeqAt.eqv_refl _ (by simp only [PyData.canLay0]; exact (layAll_flat xs).1)
  rw [e]
  exact q
end UW
namespace UW
open PySem L2
theorem slA {K : PySem.W.Frag} {H : Hp} {a : Addr} {xs : List V} {lo hi : Option Int} {Q : VK} (h : SqT K H a xs) (q : ∀ p H', Same H H' → SqT K H' p (cutV xs lo hi) → Q (.ref p) H') : rSlA K (.ref a) lo hi H Q := by
  refine ⟨a, xs, rfl, h, fun e => ?_, fun _ p np => ?_⟩
  · refine q a H (Same.refl H) ?_
    have : cutV xs lo hi = xs := by
      unfold cutV
      rw [e.1, e.2, List.drop_zero, Nat.sub_zero, List.take_length]
    rw [this]
    exact h
  · exact q p _ (same_upd np) (SqT.of upd_same)
theorem catA {K : PySem.W.Frag} {H : Hp} {a b : Addr} {xs ys : List V} {Q : VK} (h : SqT K H a xs) (h2 : SqT K H b ys) (hl : xs.length + ys.length ≤ 1000) (q : ∀ p H', Same H H' → SqT K H' p (xs ++ ys) → Q (.ref p) H') : rCatA K (.ref a) (.ref b) H Q := by
  refine ⟨a, b, xs, ys, rfl, rfl, h, h2, Nat.le_trans hl (by decide), fun e => ?_, fun _ e => ?_, fun _ _ p np => ?_⟩
  · exact q b H (Same.refl H) (by rw [e]; exact h2)
  · exact q a H (Same.refl H) (by rw [e, List.append_nil]; exact h)
  · exact q p _ (same_upd np) (SqT.of upd_same)
end UW
namespace UW
open PySem L2
/-! ### names -/
/-- one to eight letters -/
def Nm (x : Str) : Prop := (∀ c ∈ x.cps.toList, 97 ≤ c ∧ c ≤ 122) ∧ 0 < x.length ∧ x.length ≤ 8
abbrev lettersS : Str := Str.ofString "abcdefghijklmnopqrstuvwxyz"
abbrev srettelS : Str := Str.ofString "zyxwvutsrqponmlkjihgfedcba"
theorem letters_tl : lettersS.cps.toList = (List.range 26).map (97 + ·) := by decide +kernel
theorem srettel_tl : srettelS.cps.toList = (List.range 26).map (122 - ·) := by decide +kernel
theorem letters_size : lettersS.cps.size = 26 := by decide +kernel
theorem srettel_size : srettelS.cps.size = 26 := by decide +kernel
theorem len_tl' (x : Str) : x.length = x.cps.toList.length := TL.len_tl x
theorem tl_app (x y : Str) : (x ++ y).cps.toList = x.cps.toList ++ y.cps.toList := TL.tl_append x y
theorem str_ext {x y : Str} (h : x.cps.toList = y.cps.toList) : x = y := TL.ext_tl h
theorem letter_at {r : Int} (h0 : 0 ≤ r) (h1 : r < 26) : ∃ c, atI lettersS.cps.toList r = some c ∧ 97 ≤ c ∧ c ≤ 122 := by
  obtain ⟨j, rfl⟩ := Int.eq_ofNat_of_zero_le h0
  have hj : j < 26 := by omega
  refine ⟨97 + j, atI_nat ?_, by omega, by omega⟩
  rw [letters_tl, List.getElem?_map, List.getElem?_range hj]
  rfl
theorem letters_get {i c : Nat} (h : lettersS.cps[i]? = some c) : i < 26 ∧ c = 97 + i := by
  rw [← Array.getElem?_toList, letters_tl, List.getElem?_map] at h
  by_cases hi : i < 26
  · rw [List.getElem?_range hi] at h
    exact ⟨hi, (Option.some.inj h).symm⟩
  · rw [List.getElem?_eq_none (by rw [List.length_range]; omega)] at h
    cases h
theorem srettel_get {i c : Nat} (h : srettelS.cps[i]? = some c) : i < 26 ∧ c = 122 - i := by
  rw [← Array.getElem?_toList, srettel_tl, List.getElem?_map] at h
  by_cases hi : i < 26
  · rw [List.getElem?_range hi] at h
    exact ⟨hi, (Option.some.inj h).symm⟩
  · rw [List.getElem?_eq_none (by rw [List.length_range]; omega)] at h
    cases h
theorem inV_str (w : Str) : ∀ xs : List Str, inV (.str w) (xs.map V.str) = decide (w ∈ xs)
  | [] => rfl
  | x :: xs => by
    have ih := inV_str w xs
    unfold inV at ih ⊢
    rw [List.map_cons, List.any_cons, ih]
    show (x == w || decide (w ∈ xs)) = decide (w ∈ x :: xs)
    by_cases h : x = w
    · subst h
      rw [beq_self_eq_true, Bool.true_or, decide_eq_true (List.mem_cons_self ..)]
    · rw [show (x == w) = false from beq_eq_false_iff_ne.mpr h, Bool.false_or]
      exact decide_eq_decide.mpr ⟨fun z => List.mem_cons_of_mem _ z, fun z => by
        rcases List.mem_cons.mp z with z | z
        · exact absurd z.symm h
        · exact z⟩
theorem strs_flat (xs : List Str) : (xs.map V.str).all flatV = true := by
  rw [List.all_eq_true]
  intro v hv
  obtain ⟨x, _, rfl⟩ := List.mem_map.mp hv
  rfl
theorem nodup_le {α : Type} [DecidableEq α] : ∀ (cs ds : List α), cs.Nodup → (∀ c ∈ cs, c ∈ ds) → cs.length ≤ ds.length
  | [], _, _, _ => Nat.zero_le _
  | c :: cs, ds, hn, h => by
    obtain ⟨h1, h2⟩ := List.nodup_cons.mp hn
    have hm := h c (List.mem_cons_self ..)
    have ih := nodup_le cs (ds.erase c) h2 fun x hx => by
      have hne : x ≠ c := fun e => h1 (e ▸ hx)
      exact (List.mem_erase_of_ne hne).mpr (h x (List.mem_cons_of_mem _ hx))
    rw [List.length_erase_of_mem hm] at ih
    have := List.length_pos_of_mem hm
    rw [List.length_cons]
    omega
theorem free_in {α : Type} [DecidableEq α] {cs ds : List α} (hn : cs.Nodup) (h : ds.length < cs.length) : ∃ c ∈ cs, c ∉ ds := by
  by_cases q : ∃ c ∈ cs, c ∉ ds
  · exact q
  · have := nodup_le cs ds hn fun c hc => by
      by_cases hd : c ∈ ds
      · exact hd
      · exact absurd ⟨c, hc, hd⟩ q
    omega
/-- the text without its first sign -/
abbrev tailS (w : Str) : Str := cutS w (some 1) none
theorem tailS_tl (w : Str) : (tailS w).cps.toList = w.cps.toList.drop 1 := by
  show (List.take _ _ : List Nat) = _
  rw [show HT.sIx w.length 0 (some 1) = min 1 w.length from HT.sIx_nat w.length 0 1, HT.sIx_none]
  have hl := len_tl' w
  rw [hl]
  by_cases h : 1 ≤ w.cps.toList.length
  · rw [Nat.min_eq_left h, List.take_of_length_le (by rw [List.length_drop]; exact Nat.le_refl _)]
  · rw [Nat.min_eq_right (by omega), Nat.sub_self, List.take_zero, List.drop_of_length_le (by omega)]
theorem sign_app_tl (c : Nat) (x : Str) : ((⟨#[c]⟩ : Str) ++ x).cps.toList = c :: x.cps.toList := by
  rw [tl_app]
  rfl
/-- the 26 texts with another first letter -/
def cands (x : Str) : List Str := (List.range 26).map fun i => (⟨#[97 + i]⟩ : Str) ++ x
theorem cands_nodup (x : Str) : (cands x).Nodup := by
  unfold cands
  rw [List.nodup_iff_pairwise_ne, List.pairwise_map]
  refine List.Pairwise.imp ?_ List.nodup_range
  intro i j hij e
  have := congrArg (fun z : Str => z.cps.toList) e
  rw [show ((⟨#[97 + i]⟩ : Str) ++ x).cps.toList = (97 + i) :: x.cps.toList from sign_app_tl _ _, show ((⟨#[97 + j]⟩ : Str) ++ x).cps.toList = (97 + j) :: x.cps.toList from sign_app_tl _ _] at this
  injection this with h1 _
  omega
theorem cand_nm {w : Str} (h : Nm w) {i : Nat} (hi : i < 26) : Nm ((⟨#[97 + i]⟩ : Str) ++ tailS w) := by
  obtain ⟨h1, h2, h3⟩ := h
  have e := sign_app_tl (97 + i) (tailS w)
  have hl : ((⟨#[97 + i]⟩ : Str) ++ tailS w).length = w.length := by
    rw [len_tl', e, tailS_tl, List.length_cons, List.length_drop, ← len_tl']
    omega
  refine ⟨fun c hc => ?_, by omega, by omega⟩
  rw [e, tailS_tl] at hc
  rcases List.mem_cons.mp hc with rfl | hc
  · omega
  · exact h1 c (List.mem_of_mem_drop hc)
theorem join_one {ys : List Str} (h : ∀ y ∈ ys, ∃ c, y = ⟨#[c]⟩ ∧ 97 ≤ c ∧ c ≤ 122) (h0 : 0 < ys.length) (h8 : ys.length ≤ 8) : Nm (Txt.join (Str.ofString "") ys) := by
  have key : ∀ ys : List Str, (∀ y ∈ ys, ∃ c, y = ⟨#[c]⟩ ∧ 97 ≤ c ∧ c ≤ 122) → (Str.join (Str.ofString "") ys).cps.toList.length = ys.length ∧ ∀ c ∈ (Str.join (Str.ofString "") ys).cps.toList, 97 ≤ c ∧ c ≤ 122 := by
    intro ys
    induction ys with
    | nil => exact fun _ => ⟨rfl, fun c hc => by cases hc⟩
    | cons y ys ih =>
      intro h
      obtain ⟨c, rfl, h1, h2⟩ := h y (List.mem_cons_self ..)
      cases ys with
      | nil =>
        refine ⟨rfl, fun d hd => ?_⟩
        have hd' : d ∈ [c] := hd
        rw [List.mem_singleton.mp hd']
        exact ⟨h1, h2⟩
      | cons z zs =>
        obtain ⟨i1, i2⟩ := ih fun y hy => h y (List.mem_cons_of_mem _ hy)
        have e : (Str.join (Str.ofString "") (⟨#[c]⟩ :: z :: zs)).cps.toList = c :: (Str.join (Str.ofString "") (z :: zs)).cps.toList := by
          show ((⟨#[c]⟩ : Str) ++ Str.ofString "" ++ Str.join (Str.ofString "") (z :: zs)).cps.toList = _
          rw [tl_app, tl_app]
          rfl
        rw [e]
        refine ⟨by rw [List.length_cons, i1]; rfl, fun d hd => ?_⟩
        rcases List.mem_cons.mp hd with rfl | hd
        · exact ⟨h1, h2⟩
        · exact i2 d hd
  obtain ⟨k1, k2⟩ := key ys h
  rw [TL.join_eq]
  exact ⟨k2, by rw [len_tl', k1]; exact h0, by rw [len_tl', k1]; exact h8⟩
end UW
namespace UW
theorem range_map_succ' {α : Type} (g : Nat → α) (n : Nat) : (List.range (n + 1)).map g = (List.range n).map g ++ [g n] := by
  rw [List.range_succ, List.map_append]
  rfl
end UW
namespace UW
open PySem L2
/-! ### lists and tuples of texts compared -/
theorem Nm.ok {x : Str} (h : Nm x) : PyData.strOk x = true := by
  unfold PyData.strOk
  rw [Array.all_eq_true']
  intro c hc
  have := (h.1 c (Array.mem_toList_iff.mpr hc)).2
  exact decide_eq_true (by omega)
theorem dpAll_strs {K : PySem.W.Frag} {H : Hp} : ∀ xs : List Str, DpAll K H (xs.map V.str) (xs.map PyData.str)
  | [] => .nil
  | x :: xs => .cons (.str x) (dpAll_strs xs)
theorem layAll_strs : ∀ {xs : List Str}, (∀ x ∈ xs, PyData.strOk x = true) → PyData.canLayAll0 (xs.map PyData.str) = true ∧ PyData.depthAll (xs.map PyData.str) = 0
  | [], _ => ⟨by simp only [List.map_nil, PyData.canLayAll0], by simp only [List.map_nil, PyData.depthAll]⟩
  | x :: xs, h => by
    obtain ⟨c, d⟩ := layAll_strs fun y hy => h y (List.mem_cons_of_mem _ hy)
    rw [List.map_cons]
    exact ⟨by simp only [PyData.canLayAll0, PyData.canLay0, h x (List.mem_cons_self ..), c, Bool.and_self], by simp only [PyData.depthAll, PyData.depth, d, Nat.max_self]⟩
theorem shaped_strs {xs : List Str} (h : ∀ x ∈ xs, PyData.strOk x = true) : SeqAt.shaped (.list (xs.map PyData.str)) = true := by
  obtain ⟨c, d⟩ := layAll_strs h
  unfold SeqAt.shaped
  simp only [PyData.canLay0, PyData.depth, c, d]
  decide
theorem eqvAll_strs : ∀ xs ys : List Str, PyData.eqvAll (xs.map PyData.str) (ys.map PyData.str) = decide (xs = ys)
  | [], [] => by simp only [List.map_nil, PyData.eqvAll]; rfl
  | [], y :: ys => by simp only [List.map_nil, List.map_cons, PyData.eqvAll]; rfl
  | x :: xs, [] => by simp only [List.map_nil, List.map_cons, PyData.eqvAll]; rfl
  | x :: xs, y :: ys => by
    simp only [List.map_cons, PyData.eqvAll, PyData.eqv]
    rw [eqvAll_strs xs ys]
    by_cases h : x = y
    · subst h
      rw [beq_self_eq_true, Bool.true_and]
      exact decide_eq_decide.mpr ⟨fun e => by rw [e], fun e => by injection e⟩
    · rw [show (x == y) = false from beq_eq_false_iff_ne.mpr h, Bool.false_and]
      exact (decide_eq_false fun e => h (by injection e)).symm
/-- xs != ys of texts -/
theorem neD_strs {K : PySem.W.Frag} {H : Hp} {a b : Addr} {xs ys : List Str} {Q : VK} (h1 : SqL K H a (xs.map V.str)) (h2 : SqL K H b (ys.map V.str)) (hx : ∀ x ∈ xs, PyData.strOk x = true) (hy : ∀ y ∈ ys, PyData.strOk y = true) (q : Q (.bl (!decide (xs = ys))) H) : rNeD K (.ref a) (.ref b) H Q := by
  refine ⟨_, _, .lst h1 (dpAll_strs xs), .lst h2 (dpAll_strs ys), shaped_strs hx, shaped_strs hy, ?_⟩
  have e : PyData.eqv (.list (xs.map PyData.str)) (.list (ys.map PyData.str)) = decide (xs = ys) := by
    simp only [PyData.eqv]
    exact eqvAll_strs xs ys
  rw [e]
  exact q
theorem seq_ix {r : Int} {n : Nat} (h0 : 0 ≤ r) (h1 : r < n) : seqIndex? r n = some r.toNat := (ixN_seq (by
  unfold ixN
  rw [if_pos h0, if_pos h1])).1
end UW
namespace UW
theorem perm_pick {α : Type} : ∀ (ls : List α) (k : Nat) (h : k < ls.length), (ls[k] :: ls.eraseIdx k).Perm ls
  | [], _, h => absurd h (Nat.not_lt_zero _)
  | x :: xs, 0, _ => List.Perm.refl _
  | x :: xs, k + 1, h => by
    have hk : k < xs.length := by simpa using h
    have ih := perm_pick xs k hk
    show (xs[k] :: x :: xs.eraseIdx k).Perm (x :: xs)
    exact (List.Perm.swap _ _ _).trans (List.Perm.cons x ih)
theorem map_pick {α β : Type} (f : α → β) : ∀ (ls : List α) (k : Nat), (ls.map f).eraseIdx k = (ls.eraseIdx k).map f
  | [], _ => rfl
  | x :: xs, 0 => rfl
  | x :: xs, k + 1 => by
    show f x :: (xs.map f).eraseIdx k = f x :: (xs.eraseIdx k).map f
    rw [map_pick f xs k]
end UW
namespace UW
open PySem L2
theorem cutV_to {xs : List V} {n : Nat} : cutV xs none (some (n : Int)) = xs.take n := by
  unfold cutV
  rw [show HT.sIx xs.length xs.length (some (n : Int)) = min n xs.length from HT.sIx_nat xs.length xs.length n, HT.sIx_none]
  show (xs.drop 0).take (min n xs.length - 0) = xs.take n
  rw [List.drop_zero, Nat.sub_zero]
  by_cases h : n ≤ xs.length
  · rw [Nat.min_eq_left h]
  · rw [Nat.min_eq_right (by omega), List.take_length, List.take_of_length_le (by omega)]
theorem menu_ix {zs : List Int} {r : Int} (h0 : 0 ≤ r) (h1 : r < zs.length) : ∃ z, z ∈ zs ∧ atI (zs.map V.int) r = some (.int z) := by
  obtain ⟨j, rfl⟩ := Int.eq_ofNat_of_zero_le h0
  have hj : j < zs.length := by omega
  exact ⟨zs[j], List.getElem_mem hj, atI_nat (by rw [List.getElem?_map, List.getElem?_eq_getElem hj]; rfl)⟩
theorem menu_str {zs : List Str} {r : Int} (h0 : 0 ≤ r) (h1 : r < zs.length) : ∃ z, z ∈ zs ∧ atI (zs.map V.str) r = some (.str z) := by
  obtain ⟨j, rfl⟩ := Int.eq_ofNat_of_zero_le h0
  have hj : j < zs.length := by omega
  exact ⟨zs[j], List.getElem_mem hj, atI_nat (by rw [List.getElem?_map, List.getElem?_eq_getElem hj]; rfl)⟩
/-! ### facts of units -/
/-- what a unit is made of -/
structure UF where
  kind : Str
  needs : List Str
  wants : List Str
  bars : List Str
  after : List Str
  opens : Option Str
  five : Option (Int × Int × Int × Int × Int)
deriving DecidableEq
def UF.named (u : UF) : List Str := u.needs ++ u.wants ++ u.bars ++ u.after ++ u.opens.toList
def optV : Option Str → V
  | none => .non
  | some x => .str x
def FiveAt (H : Hp) : V → Option (Int × Int × Int × Int × Int) → Prop
  | v, none => v = .non
  | v, some (f, m, t, b, s) => ∃ p, v = .ref p ∧ H p = some (.tup [.int f, .int m, .int t, .int b, .int s]) ∧ Five f m t b s
/-- the seven facts stand in a tuple -/
def FactAt (H : Hp) (v : V) (u : UF) : Prop := ∃ (t n w b a : Addr) (g : V), v = .ref t ∧ H t = some (.tup [.str u.kind, .ref n, .ref w, .ref b, .ref a, optV u.opens, g]) ∧
  H n = some (.tup (u.needs.map V.str)) ∧ H w = some (.tup (u.wants.map V.str)) ∧ H b = some (.tup (u.bars.map V.str)) ∧ H a = some (.tup (u.after.map V.str)) ∧ FiveAt H g u.five
def NotTup (H : Hp) (q : Addr) : Prop := ∀ xs, H q ≠ some (.tup xs)
theorem NotTup.ne {H : Hp} {q c : Addr} {xs : List V} (h : NotTup H q) (e : H c = some (.tup xs)) : c ≠ q := fun z => h xs (z ▸ e)
theorem NotTup.lst {H : Hp} {q : Addr} {xs : List V} (h : H q = some (.lst xs)) : NotTup H q := fun ys e => by rw [h] at e; cases e
theorem NotTup.dK {H : Hp} {q : Addr} {kvs : List (Key × V)} (h : H q = some (.dK kvs)) : NotTup H q := fun ys e => by rw [h] at e; cases e
theorem NotTup.none {H : Hp} {q : Addr} (h : H q = Option.none) : NotTup H q := fun ys e => by rw [h] at e; cases e
theorem Bag.notTup {n : Nat} {H : Hp} {p : Addr} (b : Bag n H p) : NotTup H p := by
  obtain ⟨_, _, _, h, _⟩ := b.ex
  exact .lst h
theorem FiveAt.keep {H H' : Hp} {q : Addr} {v : V} {o : Option (Int × Int × Int × Int × Int)} (h : FiveAt H v o) (k : Kp q H H') (n : NotTup H q) : FiveAt H' v o := by
  cases o with
  | none => exact h
  | some o =>
    obtain ⟨f, m, t, b, s⟩ := o
    obtain ⟨p, e, hp, F⟩ := h
    exact ⟨p, e, k _ _ hp (n.ne hp), F⟩
theorem FactAt.keep {H H' : Hp} {q : Addr} {v : V} {u : UF} (h : FactAt H v u) (k : Kp q H H') (n : NotTup H q) : FactAt H' v u := by
  obtain ⟨t, a1, a2, a3, a4, g, e, h0, h1, h2, h3, h4, h5⟩ := h
  exact ⟨t, a1, a2, a3, a4, g, e, k _ _ h0 (n.ne h0), k _ _ h1 (n.ne h1), k _ _ h2 (n.ne h2), k _ _ h3 (n.ne h3), k _ _ h4 (n.ne h4), h5.keep k n⟩
theorem FiveAt.same {H H' : Hp} {v : V} {o : Option (Int × Int × Int × Int × Int)} (h : FiveAt H v o) (s : Same H H') : FiveAt H' v o := by
  cases o with
  | none => exact h
  | some o =>
    obtain ⟨f, m, t, b, s'⟩ := o
    obtain ⟨p, e, hp, F⟩ := h
    exact ⟨p, e, s _ _ hp, F⟩
theorem FactAt.same {H H' : Hp} {v : V} {u : UF} (h : FactAt H v u) (s : Same H H') : FactAt H' v u := by
  obtain ⟨t, a1, a2, a3, a4, g, e, h0, h1, h2, h3, h4, h5⟩ := h
  exact ⟨t, a1, a2, a3, a4, g, e, s _ _ h0, s _ _ h1, s _ _ h2, s _ _ h3, s _ _ h4, h5.same s⟩
/-- a dict of facts by names -/
inductive FactsAt (H : Hp) : List (Key × V) → List (Str × UF) → Prop
  | nil : FactsAt H [] []
  | snoc {kvs : List (Key × V)} {us : List (Str × UF)} {w : Str} {v : V} {u : UF} (h : FactsAt H kvs us) (e : FactAt H v u) : FactsAt H (kvs ++ [(Sum.inr w, v)]) (us ++ [(w, u)])
theorem FactsAt.keep {H H' : Hp} {q : Addr} {kvs : List (Key × V)} {us : List (Str × UF)} (h : FactsAt H kvs us) (k : Kp q H H') (n : NotTup H q) : FactsAt H' kvs us := by
  induction h with
  | nil => exact .nil
  | snoc _ e ih => exact .snoc ih (e.keep k n)
theorem FactsAt.same {H H' : Hp} {kvs : List (Key × V)} {us : List (Str × UF)} (h : FactsAt H kvs us) (s : Same H H') : FactsAt H' kvs us := by
  induction h with
  | nil => exact .nil
  | snoc _ e ih => exact .snoc ih (e.same s)
theorem FactsAt.len {H : Hp} {kvs : List (Key × V)} {us : List (Str × UF)} (h : FactsAt H kvs us) : kvs.length = us.length := by
  induction h with
  | nil => rfl
  | snoc _ _ ih => rw [List.length_append, List.length_append, ih]; rfl
theorem FactsAt.keys {H : Hp} {kvs : List (Key × V)} {us : List (Str × UF)} (h : FactsAt H kvs us) : kvs.map (·.1) = us.map fun p => (Sum.inr p.1 : Key) := by
  induction h with
  | nil => rfl
  | snoc _ _ ih => rw [List.map_append, List.map_append, ih]; rfl
theorem FactsAt.free {H : Hp} {kvs : List (Key × V)} {us : List (Str × UF)} (h : FactsAt H kvs us) {w : Str} (hw : w ∉ us.map (·.1)) : valV kvs (Sum.inr w : Key) = none := by
  induction h with
  | nil => rfl
  | @snoc kvs us w' v u h e ih =>
    rw [List.map_append] at hw
    have h1 : w ∉ us.map (·.1) := fun z => hw (List.mem_append_left _ z)
    have h2 : w ≠ w' := fun z => hw (List.mem_append_right _ (List.mem_singleton.mpr z))
    have q1 := ih h1
    have hv : ∀ kvs : List (Key × V), valV kvs (Sum.inr w : Key) = none → valV (kvs ++ [((Sum.inr w' : Key), v)]) (Sum.inr w : Key) = none := by
      intro kvs
      induction kvs with
      | nil => exact fun _ => valV_neg (fun z => h2 (by cases z; rfl))
      | cons p r ih =>
        intro hn
        by_cases hp : p.1 = (Sum.inr w : Key)
        · rw [valV_pos hp] at hn
          cases hn
        · rw [valV_neg hp] at hn
          rw [List.cons_append, valV_neg hp]
          exact ih hn
    exact hv kvs q1
theorem FactsAt.get {H : Hp} {kvs : List (Key × V)} {us : List (Str × UF)} (h : FactsAt H kvs us) (hn : (us.map (·.1)).Nodup) : ∀ p ∈ us, ∃ v, valV kvs (Sum.inr p.1 : Key) = some v ∧ FactAt H v p.2 := by
  induction h with
  | nil => intro p hp; cases hp
  | @snoc kvs us w v u h e ih =>
    intro p hp
    rw [List.map_append] at hn
    obtain ⟨n1, _, n3⟩ := List.nodup_append.mp hn
    have hw : w ∉ us.map (·.1) := fun z => n3 w z w (List.mem_singleton.mpr rfl) rfl
    have hf := h.free hw
    rw [valV_snoc _ _ _ _ hf]
    rcases List.mem_append.mp hp with hp1 | hp
    · obtain ⟨v', hv', ha⟩ := ih n1 p hp1
      have hne : ¬ (Sum.inr p.1 : Key) = Sum.inr w := fun z => hw (by cases z; exact List.mem_map.mpr ⟨p, hp1, rfl⟩)
      exact ⟨v', by rw [if_neg hne]; exact hv', ha⟩
    · have e' := List.mem_singleton.mp hp
      subst e'
      exact ⟨v, by rw [if_pos rfl], e⟩
/-- what a drawn unit is -/
structure UOk (ns ss : List Str) (w : Str) (u : UF) : Prop where
  kd : u.kind = Str.ofString "work" ∨ u.kind = Str.ofString "goal" ∨ u.kind = Str.ofString "door"
  nN : u.needs.Nodup
  nW : u.wants.Nodup
  nB : u.bars.Nodup
  nA : u.after.Nodup
  lN : u.needs.length ≤ 8
  lW : u.wants.length ≤ 8
  lB : u.bars.length ≤ 8
  lA : u.after.length ≤ 8
  mem : ∀ x ∈ u.named, (x ∈ ns ∨ x ∈ ss) ∧ x ≠ w
  op1 : u.kind = Str.ofString "door" → u.opens ≠ none
  op2 : u.kind ≠ Str.ofString "door" → u.opens = none
end UW

namespace UW
open PySem L2
theorem cutV_bit (ss : List Str) (b : Bool) : ∃ m : Nat, cutV (ss.map V.str) none (some (if b = true then 1 else 0)) = (ss.take m).map V.str := by
  cases b
  · exact ⟨0, by rw [List.map_take]; exact cutV_to (n := 0)⟩
  · exact ⟨1, by rw [List.map_take]; exact cutV_to (n := 1)⟩
theorem cutV_strs (ss : List Str) (n : Nat) : cutV (ss.map V.str) none (some (n : Int)) = (ss.take n).map V.str := by
  rw [List.map_take]
  exact cutV_to
def rcands (x : Str) : List Str := (List.range 26).map fun i => (⟨#[122 - i]⟩ : Str) ++ x
theorem rcands_nodup (x : Str) : (rcands x).Nodup := by
  unfold rcands
  rw [List.nodup_iff_pairwise_ne, List.pairwise_map]
  refine List.Pairwise.imp_of_mem ?_ List.pairwise_lt_range
  intro a b ha hb hab e
  have ha := List.mem_range.mp ha
  have hb := List.mem_range.mp hb
  have h := congrArg (fun z : Str => z.cps.toList) e
  simp only [sign_app_tl] at h
  injection h with h _
  omega
theorem rcand_nm {i : Nat} (hi : i < 26) : Nm ((⟨#[122 - i]⟩ : Str) ++ Str.ofString "zz") := by
  have e : ((⟨#[122 - i]⟩ : Str) ++ Str.ofString "zz").cps.toList = (122 - i) :: [122, 122] := by
    rw [sign_app_tl]
    have : (Str.ofString "zz").cps.toList = [122, 122] := by decide +kernel
    rw [this]
  refine ⟨fun c hc => ?_, ?_, ?_⟩
  · rw [e] at hc
    rcases List.mem_cons.mp hc with rfl | hc
    · omega
    · rcases List.mem_cons.mp hc with rfl | hc
      · omega
      · rw [List.mem_singleton.mp hc]
        omega
  · rw [len_tl', e]
    exact Nat.zero_lt_succ _
  · rw [len_tl', e]
    show 3 ≤ 8
    omega
theorem filter_free {α : Type} [DecidableEq α] {cs ds : List α} (hn : cs.Nodup) (h : ds.length < cs.length) : 0 < (cs.filter fun x => decide (x ∉ ds)).length := by
  obtain ⟨c, hc, hd⟩ := free_in hn h
  exact List.length_pos_of_mem (List.mem_filter.mpr ⟨hc, decide_eq_true hd⟩)
theorem take_filter_snoc {α : Type} (f : α → Bool) {xs : List α} {i : Nat} {x : α} (h : xs[i]? = some x) : (xs.take (i + 1)).filter f = (xs.take i).filter f ++ (if f x = true then [x] else []) := by
  rw [List.take_add_one, h, List.filter_append]
  show _ ++ List.filter f [x] = _
  cases hf : f x
  · rw [List.filter_cons_of_neg (by rw [hf]; exact Bool.false_ne_true), if_neg Bool.false_ne_true]
    rfl
  · rw [List.filter_cons_of_pos hf, if_pos rfl]
    rfl
theorem map_str_get {xs : List Str} {i : Nat} {x : V} (h : (xs.map V.str)[i]? = some x) : ∃ w, xs[i]? = some w ∧ x = .str w := by
  rw [List.getElem?_map] at h
  cases hx : xs[i]? with
  | none => rw [hx] at h; cases h
  | some w => rw [hx] at h; exact ⟨w, rfl, by injection h with h; exact h.symm⟩
end UW

namespace UW
open PySem L2
/-- [z1, ..][take(bag, k)], the menu just laid at l -/
theorem pick_menu {K : PySem.W.Frag} {H : Hp} {p l : Addr} {n : Nat} (zs : List V) {k : Int} {Q : VK} {E' : XK} (B : Bag n H p) (hn : n < 900000000) (hl : H l = none) (hk : k = (zs.length : Int)) (hz0 : 0 < zs.length) (hz1 : zs.length < 1000)
    (q : ∀ (z : V) H', z ∈ zs → Bag (n + 1) H' p → Kp p H H' → Q z H') :
    spTake [.ref p, .int k] (upd H l (.lst zs)) (fun v H2 => rIxL K (.ref l) v H2 Q) E' := by
  subst hk
  generalize hE : upd H l _ = H1
  have k1 := new_at hE
  have s1 := new_same hE hl
  have npl := B.ne hl
  refine take_of (B.same s1) (by omega) (by omega) (by omega) fun r H2 r0 r1 B2 kp2 => ?_
  obtain ⟨j, rfl⟩ := Int.eq_ofNat_of_zero_le r0
  have hj : j < zs.length := by omega
  refine ⟨l, _, _, zs[j], rfl, rfl, SqL.of (kp2 _ _ k1 npl.symm), atI_nat (List.getElem?_eq_getElem hj), ?_⟩
  exact q _ H2 (List.getElem_mem hj) B2 ((Kp.of s1).trans kp2)
theorem mix_ok {ns ss zs : List Str} {w : Str} (hn : ns.Nodup) (hs : ss.Nodup) (hm : ∀ x ∈ ns, Nm x) (ht : ∀ x ∈ ss, Nm x ∧ x ∉ ns) (h1 : ns.length ≤ 20) (h2 : ss.length ≤ 2) (hw : w ∈ ns) (hz : zs.Sublist ss) :
    ((ns.filter fun x => decide (x ≠ w)) ++ zs).Nodup ∧ ((ns.filter fun x => decide (x ≠ w)) ++ zs).length ≤ 100 ∧ (∀ x ∈ (ns.filter fun x => decide (x ≠ w)) ++ zs, Nm x) ∧ ∀ x ∈ (ns.filter fun x => decide (x ≠ w)) ++ zs, (x ∈ ns ∨ x ∈ ss) ∧ x ≠ w := by
  have key : ∀ x ∈ (ns.filter fun x => decide (x ≠ w)) ++ zs, Nm x ∧ (x ∈ ns ∨ x ∈ ss) ∧ x ≠ w := fun x hx => by
    rcases List.mem_append.mp hx with hx | hx
    · obtain ⟨a, b⟩ := List.mem_filter.mp hx
      exact ⟨hm x a, .inl a, of_decide_eq_true b⟩
    · have hx' := hz.subset hx
      exact ⟨(ht x hx').1, .inr hx', fun e => (ht x hx').2 (e ▸ hw)⟩
  refine ⟨List.nodup_append.mpr ⟨List.Nodup.sublist List.filter_sublist hn, List.Nodup.sublist hz hs, fun a ha b hb e => ?_⟩, ?_, fun x hx => (key x hx).1, fun x hx => (key x hx).2⟩
  · exact (ht b (hz.subset hb)).2 (e ▸ (List.mem_filter.mp ha).1)
  · rw [List.length_append]
    have := hz.length_le
    have := List.length_filter_le (fun x => decide (x ≠ w)) ns
    omega
end UW

namespace UW
open PySem L2
theorem tup_same {K : PySem.W.Frag} {H H' : Hp} {a : Addr} {xs : List V} (e : Same H H') (h : SqT K H a xs) : SqT K H' a xs := SqT.ext h e
/-- what isn't a tuple, nor a frozen one -/
def NotTp (H : Hp) (q : Addr) : Prop := ∀ xs, H q ≠ some (.tup xs) ∧ ∀ o, H q ≠ some (.frz o (.tup xs))
theorem NotTp.lst {H : Hp} {q : Addr} {xs : List V} (h : H q = some (.lst xs)) : NotTp H q := fun ys => ⟨(fun e => by rw [h] at e; cases e), (fun o e => by rw [h] at e; cases e)⟩
theorem NotTp.dK {H : Hp} {q : Addr} {xs : List (Key × V)} (h : H q = some (.dK xs)) : NotTp H q := fun ys => ⟨(fun e => by rw [h] at e; cases e), (fun o e => by rw [h] at e; cases e)⟩
theorem NotTp.ins {H : Hp} {q C dx : Addr} {fs : List (Str × V)} (h : H q = some (.ins C dx fs)) : NotTp H q := fun ys => ⟨(fun e => by rw [h] at e; cases e), (fun o e => by rw [h] at e; cases e)⟩
theorem Bag.notTp {n : Nat} {H : Hp} {p : Addr} (b : Bag n H p) : NotTp H p := by
  obtain ⟨_, _, _, h, _⟩ := b.ex
  exact .lst h
theorem Kp.tup {K : PySem.W.Frag} {H H' : Hp} {q a : Addr} {xs : List V} (k : Kp q H H') (n : NotTp H q) (h : SqT K H a xs) : SqT K H' a xs := by
  rcases h with (h | ⟨o, h⟩) | h
  · exact .inl (.inl (k _ _ h fun e => (n xs).1 (e ▸ h)))
  · exact .inl (.inr ⟨o, k _ _ h fun e => (n xs).2 o (e ▸ h)⟩)
  · exact .inr h
end UW

namespace UW
open PySem L2
theorem shaped_strsT {xs : List Str} (h : ∀ x ∈ xs, PyData.strOk x = true) : SeqAt.shaped (.tuple (xs.map PyData.str)) = true := by
  have := shaped_strs h
  unfold SeqAt.shaped at *
  simp only [PyData.canLay0, PyData.depth] at *
  exact this
theorem eqD_strsT {K : PySem.W.Frag} {H : Hp} {a b : Addr} {xs ys : List Str} {Q : VK} (h1 : SqT K H a (xs.map V.str)) (h2 : SqT K H b (ys.map V.str)) (hx : ∀ x ∈ xs, PyData.strOk x = true) (hy : ∀ y ∈ ys, PyData.strOk y = true) (q : Q (.bl (decide (xs = ys))) H) : rEqD K (.ref a) (.ref b) H Q := by
  refine ⟨_, _, .tup h1 (dpAll_strs xs), .tup h2 (dpAll_strs ys), shaped_strsT hx, shaped_strsT hy, ?_⟩
  have e : PyData.eqv (.tuple (xs.map PyData.str)) (.tuple (ys.map PyData.str)) = decide (xs = ys) := by
    simp only [PyData.eqv]
    exact eqvAll_strs xs ys
  rw [e]
  exact q
theorem dec_str {x y : Str} : decide (V.str x = V.str y) = decide (x = y) := decide_eq_decide.mpr ⟨fun e => by cases e; rfl, fun e => by rw [e]⟩
theorem dec_optV {x y : Option Str} : decide (optV x = optV y) = decide (x = y) := decide_eq_decide.mpr ⟨fun e => by
  cases x with
  | none => cases y with
    | none => rfl
    | some y => cases e
  | some x => cases y with
    | none => cases e
    | some y => cases e; rfl, fun e => by rw [e]⟩
theorem scal_optV (x y : Option Str) : scal (optV x) (optV y) = true := by
  cases x <;> cases y <;> rfl
end UW

namespace UW
open PySem L2
theorem neF {x : V} {A B : Prop} (h : B) : if (!decide (x = x)) = true then A else B := by
  rw [decide_eq_true rfl]
  exact iteF h
theorem eqv_strsT (xs : List Str) : PyData.eqv (.tuple (xs.map PyData.str)) (.tuple (xs.map PyData.str)) = true := by
  simp only [PyData.eqv]
  rw [eqvAll_strs]
  exact decide_eq_true rfl
theorem neD_quad {K : PySem.W.Frag} {H : Hp} {l l' a1 a2 a3 a4 b1 b2 b3 b4 : Addr} {x1 x2 x3 x4 : List Str} {Q : VK} (hl : SqL K H l [.ref a1, .ref a2, .ref a3, .ref a4]) (hl' : SqL K H l' [.ref b1, .ref b2, .ref b3, .ref b4])
    (h1 : SqT K H a1 (x1.map V.str)) (h2 : SqT K H a2 (x2.map V.str)) (h3 : SqT K H a3 (x3.map V.str)) (h4 : SqT K H a4 (x4.map V.str)) (g1 : SqT K H b1 (x1.map V.str)) (g2 : SqT K H b2 (x2.map V.str)) (g3 : SqT K H b3 (x3.map V.str)) (g4 : SqT K H b4 (x4.map V.str))
    (k1 : ∀ x ∈ x1, PyData.strOk x = true) (k2 : ∀ x ∈ x2, PyData.strOk x = true) (k3 : ∀ x ∈ x3, PyData.strOk x = true) (k4 : ∀ x ∈ x4, PyData.strOk x = true) (q : Q (.bl false) H) : rNeD K (.ref l) (.ref l') H Q := by
  have sh : SeqAt.shaped (.list [.tuple (x1.map PyData.str), .tuple (x2.map PyData.str), .tuple (x3.map PyData.str), .tuple (x4.map PyData.str)]) = true := by
    refine Bool.and_eq_true_iff.mpr ⟨?_, decide_eq_true ?_⟩
    · simp only [PyData.canLay0, PyData.canLayAll0]
      rw [(layAll_strs k1).1, (layAll_strs k2).1, (layAll_strs k3).1, (layAll_strs k4).1]
      rfl
    · simp only [PyData.depth, PyData.depthAll]
      rw [(layAll_strs k1).2, (layAll_strs k2).2, (layAll_strs k3).2, (layAll_strs k4).2]
      decide
  refine ⟨_, _, .lst hl (.cons (.tup h1 (dpAll_strs x1)) (.cons (.tup h2 (dpAll_strs x2)) (.cons (.tup h3 (dpAll_strs x3)) (.cons (.tup h4 (dpAll_strs x4)) .nil)))), .lst hl' (.cons (.tup g1 (dpAll_strs x1)) (.cons (.tup g2 (dpAll_strs x2)) (.cons (.tup g3 (dpAll_strs x3)) (.cons (.tup g4 (dpAll_strs x4)) .nil)))), sh, sh, ?_⟩
  have e : PyData.eqv (.list [.tuple (x1.map PyData.str), .tuple (x2.map PyData.str), .tuple (x3.map PyData.str), .tuple (x4.map PyData.str)]) (.list [.tuple (x1.map PyData.str), .tuple (x2.map PyData.str), .tuple (x3.map PyData.str), .tuple (x4.map PyData.str)]) = true := by
    rw [show ∀ xs ys, PyData.eqv (.list xs) (.list ys) = PyData.eqvAll xs ys from fun xs ys => by simp only [PyData.eqv]]
    simp only [PyData.eqvAll]
    rw [eqv_strsT, eqv_strsT, eqv_strsT, eqv_strsT]
    rfl
  rw [e]
  exact q
end UW
namespace UW
open PySem PySem.Spec PyProof.Rows L2
section
variable {prog : Program} {w : World} {A : Around} {E : Value → Shared → Prop} {s : Shared}
theorem adjust_back (n : Nat) : Builtin.Slice.sliceAdjust none none (-1) (n : Int) = ((n : Int) - 1, -1) := rfl
theorem places_back (n : Nat) : Builtin.Slice.slicePlaces ((n : Int) - 1) (-1) (-1) = n := by
  unfold Builtin.Slice.slicePlaces
  rw [if_neg (by decide), show (- -1 : Int) = 1 by decide, Int.ediv_one]
  split <;> omega
theorem applied_back {sl : Addr} {vs : Value} {n : Nat} {Q : Int × Int × Nat → Shared → Prop} (hs : s.heap.IsSliceOf sl .none .none vs) (ps : IsPart vs (some (-1))) (h : Q ((n : Int) - 1, -1, n) s) :
    wpAny (model prog w) A (Builtin.Slice.sliceApplied (.ref sl) (pure (n : Int))) Q E s := by
  obtain ⟨os, hos, _, hds⟩ := id hs
  unfold Builtin.Slice.sliceApplied Builtin.Slice.sliceFields
  refine wpAny_bind (wpAny_bind (wpAny_field hos hds (x := .none) rfl (wpAny_bind (wpAny_field hos hds (x := .none) rfl (wpAny_bind (wpAny_field hos hds (x := vs) rfl (wpAny_pure ?_)))))))
  refine wpAny_bind (HT.slicePart_ ps ?_)
  show wpAny _ _ (if ((-1 : Int) == 0) = true then _ else _) _ _ s
  rw [if_neg (by decide)]
  refine wpAny_bind (slicePart_none (wpAny_bind (slicePart_none (wpAny_bind (wpAny_pure ?_)))))
  show wpAny _ _ (pure ((n : Int) - 1, (-1 : Int), Builtin.Slice.slicePlaces ((n : Int) - 1) (-1) (-1))) _ _ s
  rw [places_back]
  exact wpAny_pure h
theorem fm_congr {α β : Type} {f g : α → Option β} : ∀ {l : List α}, (∀ x ∈ l, f x = g x) → l.filterMap f = l.filterMap g
  | [], _ => rfl
  | x :: l, h => by rw [List.filterMap_cons, List.filterMap_cons, h x (List.mem_cons_self ..), fm_congr fun y hy => h y (List.mem_cons_of_mem _ hy)]
theorem pick_back (xs : Array Value) : ((List.range xs.size).filterMap fun (m : Nat) => xs[((xs.size : Int) - 1 + (m : Int) * (-1)).toNat]?).toArray = xs.toList.reverse.toArray := by
  have e : (List.range xs.size).filterMap (fun (m : Nat) => xs[((xs.size : Int) - 1 + (m : Int) * (-1)).toNat]?) = ((List.range xs.size).map fun k => xs.size - 1 - k).filterMap (xs[·]?) := by
    rw [List.filterMap_map]
    refine fm_congr fun m hm => ?_
    have : ((xs.size : Int) - 1 + (m : Int) * (-1)).toNat = xs.size - 1 - m := by
      have := List.mem_range.mp hm
      omega
    show xs[_]? = xs[_]?
    rw [this]
  rw [e, PySem.W.krv_range, List.filterMap_reverse, PySem.W.krv_all]
theorem getItem_back {t sl : Addr} {items : Array Value} {vs : Value} {Q : Value → Shared → Prop} (ht : IsTup s.heap t items) (hs : s.heap.IsSliceOf sl .none .none vs) (ps : IsPart vs (some (-1)))
    (h : Q (.ref s.heap.objs.size) { s with heap := s.heap.push { cls := .type "tuple", data := .seq items.toList.reverse.toArray } }) (hsz : items.size ≤ sizeLine) : wpAny (model prog w) A (getItem (.ref t) (.ref sl)) Q E s := by
  have hok : sizeOk (.seq items.toList.reverse.toArray) := by
    show items.toList.reverse.toArray.size ≤ sizeLine
    rw [List.size_toArray, List.length_reverse, Array.length_toList]
    exact hsz
  have hTs : s.TypeIs (.ref sl) "slice" := by
    obtain ⟨os, hos, hcs, _⟩ := id hs
    exact ⟨os, hos, hcs⟩
  unfold getItem
  try with_reducible refine wpAny_holding ?_
  first | refine wpAny_bind (wpAny_pure ?_) | skip
  refine wpAny_bind (wpAny_sequenceKey ht.typeIs (by decide) ?_)
  refine wpAny_bind (wpAny_callSpecial?_slot (name := Str.ofString "__getitem__") ht.typeIs PyProof.Rows.slot_tuple_getitem
    (wpAny_call_entry PyProof.Rows.slot_tuple_getitem ht.typeIs entry_tuple_getitem ?_ (args_tuple_getitem _ _)))
  show wpAny _ _ (Builtin.Tuple.tupleItemsOf (.ref t) >>= _) _ _ s
  refine wpAny_bind (tupleItemsOf_ ht (wpAny_bind (wpAny_typeOf hTs ?_)))
  rw [if_pos (by decide)]
  refine wpAny_bind (applied_back hs ps ?_)
  show wpAny _ _ (if (((items.size : Int) - 1) == 0 && (-1 : Int) == 1 && items.size == items.size) = true then _ else _) _ _ s
  rw [if_neg (by rw [show ((-1 : Int) == 1) = false from rfl, Bool.and_false, Bool.false_and]; exact Bool.false_ne_true), pick_back]
  exact wpAny_bind (m := Builtin.Tuple.tupleExact _) (wpAny_newObj_type (wpAny_pure ⟨_, rfl, wpAny_pure h⟩) hok)
end
section
variable {X : Cx}
def tRevT (K : PySem.W.Frag) (te : TE) : TE := fun σ H Q => te σ H fun x H1 => ∃ a xs, x = .ref a ∧ SqT K H1 a xs ∧ ∀ p, H1 p = none → Q (.ref p) (upd H1 p (.tup xs.reverse))
theorem pe_revT {e : Expr} {te : TE} {k : Nat} {p1 p2 p3 pos : Pos} (he : PE X e te) : PE X (.Subscript e (.Slice none none (some (.UnaryOp .USub (.Constant (.int 1) k p1) p2)) p3) pos) (tRevT X.K te) := by
  refine ⟨fun pins s σ H Q I h => Subscript_ (thn (he.run pins s σ H _ I h) fun v s1 ⟨x, H1, I1, r1, q1⟩ => ?_)⟩
  obtain ⟨a, xs, ex, hx, q⟩ := q1
  subst ex
  cases r1
  have hst : PO X (some (.UnaryOp .USub (.Constant (.int 1) k p1) p2)) (tPart (tUn (rU fun i => .int (-i)) (tC (.int 1)))) := po_some (pe_un un_neg pe_int)
  refine wpAny_Slice (thn (po_none.run pins s1 σ H1 (fun o H2 => o = none ∧ H2 = H1) I1 ⟨rfl, rfl⟩) fun vl s2 ⟨l, H2, I2, pl, el, e2⟩ => ?_)
  subst el e2
  refine thn (po_none.run pins s2 σ H2 (fun o H3 => o = none ∧ H3 = H2) I2 ⟨rfl, rfl⟩) fun vu s3 ⟨u, H3, I3, pu, eu, e3⟩ => ?_
  subst eu e3
  refine thn (hst.run pins s3 σ H3 (fun o H4 => o = some (-1) ∧ H4 = H3) I3 ⟨1, rfl, -1, rfl, rfl, rfl⟩) fun vs s4 ⟨o, H4, I4, ps, eo, e4⟩ => ?_
  subst eo e4
  cases pl
  cases pu
  have I5 : Inv X pins σ H4 { s4 with heap := s4.heap.push { cls := .type "slice", data := .fields #[.none, .none, vs] } } := I4.kept (t' := s4.toks) fun b ob q => Heap.get?_push_of_some _ q
  obtain ⟨its, r, ht, hz⟩ := I5.tuple hx
  have hlen := r.length
  show wpAny (model X.prog X.w) X.A (subscriptTail e (.Slice none none (some (.UnaryOp .USub (.Constant (.int 1) k p1) p2)) p3) (.ref a) (.ref s4.heap.objs.size)) (EP X pins σ Q) X.xe { s4 with heap := s4.heap.push { cls := .type "slice", data := .fields #[.none, .none, vs] } }
  refine tail_any (ops := [.ref a, .ref s4.heap.objs.size]) ht.typeIs (PyProof.Rows.slot_tuple_getitem.lookup) ?_ (by with_unfolding_all rfl)
  refine getItem_back ht (Heap.IsSliceOf.new _ .none .none vs) ps ?_ (by rw [List.size_toArray]; omega)
  refine ⟨.ref _, _, I5.laid (t' := s4.toks) (o := .tup xs.reverse) (fun b ob q => Heap.get?_push_of_some _ q) (Nat.le_refl _) ?_, rfl, q _ (I5.hok.fresh (Nat.le_refl _))⟩
  exact ⟨by rw [List.length_reverse]; exact hz, _, r.reverse, IsTup.new _ _⟩
end
end UW

namespace UW
open PySem L2
theorem inV_mem (y : Str) (us : List V) : inV (.str y) us = true ↔ V.str y ∈ us := by
  unfold inV
  rw [List.any_eq_true]
  refine ⟨fun ⟨v, hv, e⟩ => ?_, fun h => ⟨_, h, by simp [eqV]⟩⟩
  have : v = .str y := by
    cases v <;> simp [eqV] at e
    rw [e]
  exact this ▸ hv
/-- the candidates that aren't among the given things -/
def frees (x : Str) (us : List V) : List Str := (cands x).filter fun y => !inV (.str y) us
theorem frees_ok {x : Str} {us : List V} {ds : List Str} (h : ∀ y, V.str y ∈ us → y ∈ ds) (hl : ds.length < 26) : ∃ z zs, frees x us = z :: zs ∧ V.str z ∉ us ∧ z ∈ cands x := by
  obtain ⟨c, hc, hd⟩ := free_in (cands_nodup x) (ds := ds) (by unfold cands; rw [List.length_map, List.length_range]; exact hl)
  have hm : c ∈ frees x us := List.mem_filter.mpr ⟨hc, by
    cases he : inV (.str c) us
    · rfl
    · exact absurd (h c ((inV_mem c us).mp he)) hd⟩
  cases hf : frees x us with
  | nil => rw [hf] at hm; cases hm
  | cons z zs =>
    have hz : z ∈ frees x us := by rw [hf]; exact List.mem_cons_self ..
    obtain ⟨h1, h2⟩ := List.mem_filter.mp hz
    refine ⟨z, zs, rfl, fun e => ?_, h1⟩
    rw [(inV_mem z us).mpr e] at h2
    exact Bool.false_ne_true h2
theorem cand_len {x z : Str} (h : z ∈ cands x) : z.length = 1 + x.length := by
  obtain ⟨i, _, rfl⟩ := List.mem_map.mp h
  rw [len_tl', sign_app_tl, List.length_cons, ← len_tl']
  omega
end UW
/-! own layer: objects with their own ==, !=, in, str, repr -/
namespace UO
open PySem PySem.Spec PyProof.Rows L2

section
variable {X : Cx} {CX : CXT} {n : Nat} {f C : Addr} {fd : FuncData} {ps : List Str} {sp : Sp} {E : XK}
/-- a def called from within a builtin -/
theorem call_sub (F : FnOk X.prog X.w X.K X.mg X.base CX n f fd ps sp) (hb : Binds X.K fd ps []) (hx : Passes CX X E) {A : Around} (sb : Sub X n A) {pins : List (Addr × Obj)} {σ : L2.St} {H : Hp} {s : Shared} (I : L2.Inv X pins σ H s)
    {vs : List V} {us : List Value} (r : Vals vs us) {Q : VK} (h : sp vs H Q E) : wpAny (model X.prog X.w) A (call (.ref f) us) (EP X pins σ Q) X.xe s := by
  have e0 : Env0 X.prog X.w X.K X.mg X.base A X.stack s H := by
    have e := I.env0
    exact ⟨by rw [sb.fr]; exact e.frames, e.mod, e.bs, e.bsz, e.funs, e.frf, e.hok, e.bare⟩
  have hl := F.len _ _ _ _ h
  refine wpAny_call (codeAny_mono (F.run A X.stack s H ⟨us, []⟩ us vs _ E sb.room e0 (by
    have := hb s us I.kIn (by rw [List.append_nil, ← r.length]; exact hl)
    rw [List.append_nil] at this
    exact this) r h) fun r s' hq => ?_)
  cases r with
  | error e => exact hx pins σ H s e s' I hq
  | ok fl =>
    cases fl with
    | ret w => exact I.after hq
    | next => exact False.elim hq
    | brk => exact False.elim hq
    | cont => exact False.elim hq

/-- == of two values, by what is asked of them: a truth, and the heap behind it -/
def RcO (X : Cx) (n : Nat) (r : R2) : Prop :=
  ∀ (A : Around) (pins : List (Addr × Obj)) (s : Shared) (σ : L2.St) (H : Hp) (x y : V) (u v : Value) (Q : VK), Sub X n A → L2.Inv X pins σ H s → RelV x u → RelV y v → r x y H Q →
    wpAny (model X.prog X.w) A (richCompare .Eq u v) (fun t s' => ∃ b H', t = .bool b ∧ L2.Inv X pins σ H' s' ∧ Q (.bl b) H') X.xe s
def EqO (X : Cx) (n : Nat) (r : R2) : Prop :=
  ∀ (A : Around) (pins : List (Addr × Obj)) (s : Shared) (σ : L2.St) (H : Hp) (x y : V) (u v : Value) (Q : VK), Sub X n A → L2.Inv X pins σ H s → RelV x u → RelV y v → r x y H Q →
    wpAny (model X.prog X.w) A (eqBool u v) (fun b s' => ∃ H', L2.Inv X pins σ H' s' ∧ Q (.bl b) H') X.xe s
theorem op_rc {r : R2} (h : RcO X n r) (hr : Room n X.A) : OpR X (compareOp .Eq) r := by
  intro pins s σ H x y v u Q I rx ry hq
  show wpAny (model X.prog X.w) X.A (richCompare .Eq v u) (EP X pins σ Q) X.xe s
  refine wpAny_mono (h X.A pins s σ H x y v u Q ⟨hr, rfl⟩ I rx ry hq) (fun t s' z => ?_) fun _ _ x => x
  obtain ⟨b, H', rfl, I', q⟩ := z
  exact ⟨.bl b, H', I', rfl, q⟩
/-- two values that are not one object -/
def apart : V → V → Prop
  | .ref a, .ref b => a ≠ b
  | .ref _, .flt _ => False
  | .flt _, _ => False
  | .ref _, _ => True
  | _, .ref _ => True
  | _, _ => False
theorem eqBool_apart {prog : Program} {w : World} {A : Around} {E : Value → Shared → Prop} {s : Shared} {u v : Value} {x y : V} {Q : Bool → Shared → Prop} (ha : apart x y) (rx : RelV x u) (ry : RelV y v)
    (h : wpAny (model prog w) A (richCompare .Eq u v) (fun t s' => ∃ b, t = .bool b ∧ Q b s') E s) : wpAny (model prog w) A (eqBool u v) Q E s := by
  have fin : ∀ (u v : Value), (u == v) = false → (wpAny (model prog w) A (eqBool u v) Q E s = wpAny (model prog w) A (holding [u, v] (if (u == v) = true then (do rule "eq-bool.same-object"; return true) else (do truthOfDropped (← richCompare .Eq u v)))) Q E s) →
      wpAny (model prog w) A (richCompare .Eq u v) (fun t s' => ∃ b, t = .bool b ∧ Q b s') E s → wpAny (model prog w) A (eqBool u v) Q E s := fun u v k e h => by
    rw [e]
    refine wpAny_holding ?_
    rw [k]
    show wpAny _ _ (do truthOfDropped (← richCompare .Eq u v)) _ _ _
    refine wpAny_bind (wpAny_mono h (fun t s' z => ?_) fun _ _ x => x)
    obtain ⟨b, rfl, q⟩ := z
    exact wpAny_truthy_bool q
  cases x with
  | ref a =>
    cases (show u = Value.ref a from rx)
    cases y with
    | ref b =>
      cases (show v = Value.ref b from ry)
      refine fin _ _ ?_ rfl h
      cases q : (Value.ref a == Value.ref b) with
      | false => rfl
      | true => exact absurd (by have := eq_of_beq q; injection this) ha
    | non => cases (show v = Value.none from ry); exact fin _ _ rfl rfl h
    | bl b => cases (show v = Value.bool b from ry); exact fin _ _ rfl rfl h
    | int i => obtain ⟨t, rfl⟩ := (show ∃ t, v = Value.int i t from ry); exact fin _ _ rfl rfl h
    | str z => obtain ⟨t, rfl⟩ := (show ∃ t, v = Value.str z t from ry); exact fin _ _ rfl rfl h
    | byt z => obtain ⟨t, rfl⟩ := (show ∃ t, v = Value.bytes z t from ry); exact fin _ _ rfl rfl h
    | flt z => exact False.elim ha
    | ty z => cases (show v = Value.type z from ry); exact fin _ _ rfl rfl h
  | _ =>
    cases y with
    | ref b =>
      cases (show v = Value.ref b from ry)
      first
        | exact False.elim ha
        | (cases (show u = Value.none from rx); exact fin _ _ rfl rfl h)
        | (cases (show u = Value.bool _ from rx); exact fin _ _ rfl rfl h)
        | (obtain ⟨t, rfl⟩ := (show ∃ t, u = Value.int _ t from rx); exact fin _ _ rfl rfl h)
        | (obtain ⟨t, rfl⟩ := (show ∃ t, u = Value.str _ t from rx); exact fin _ _ rfl rfl h)
        | (obtain ⟨t, rfl⟩ := (show ∃ t, u = Value.bytes _ t from rx); exact fin _ _ rfl rfl h)
        | (cases (show u = Value.type _ from rx); exact fin _ _ rfl rfl h)
    | _ => exact False.elim ha
theorem RcO.eqO {r : R2} (h : RcO X n r) (ha : ∀ x y H Q, r x y H Q → apart x y) : EqO X n r := by
  intro A pins s σ H x y u v Q sb I rx ry hq
  refine eqBool_apart (ha x y H Q hq) rx ry (wpAny_mono (h A pins s σ H x y u v Q sb I rx ry hq) (fun t s' z => ?_) fun _ _ x => x)
  obtain ⟨b, H', rfl, I', q⟩ := z
  exact ⟨b, rfl, H', I', q⟩

def rAp (r : R2) : R2 := fun x y H Q => apart x y ∧ r x y H Q
theorem RcO.ap {r : R2} (h : RcO X n r) : EqO X n (rAp r) := RcO.eqO (r := rAp r) (fun A pins s σ H x y u v Q sb I rx ry hq => h A pins s σ H x y u v Q sb I rx ry hq.2) fun x y H Q hq => hq.1

/-! ### an instance on the left -/
def rEqO (K : PySem.W.Frag) (C : Addr) (sp : Sp) (E : XK) : R2 := fun x y H Q => ∃ a dx fs t, x = .ref a ∧ H a = some (.ins C dx fs) ∧ TyX K H y t ∧ PySem.W.notFirst K C t = true ∧ sp [x, y] H (fun v H' => ∃ b, v = .bl b ∧ Q (.bl b) H') E
theorem rc_left (F : FnOk X.prog X.w X.K X.mg X.base CX n f fd ps sp) (hs : PySem.W.findIn X.K (.ref C) "__eq__" = some (some (.ref f))) (hf : PySem.W.isFn X.K (.ref f) = true) (hb : Binds X.K fd ps []) (hx : Passes CX X E) : RcO X n (rEqO X.K C sp E) := by
  intro A pins s σ H x y u v Q sb I rx ry hq
  obtain ⟨a, dx, fs, t, rfl, ha, ty, hn, q⟩ := hq
  cases rx
  obtain ⟨mA, J, _⟩ := ins_get I.hok ha
  obtain ⟨od, J, _⟩ := J.look
  obtain ⟨m, hF⟩ := I.fr
  obtain ⟨P, Z, p, _⟩ := kit_of I ry ty
  refine PySem.W.cmp_K (op := .Eq) (tb := t) sb.room.units0 hF I.ok.mod.kin J (Z.ty _ _ I.kIn p) hn hs hf ?_
  have r2 : Vals [V.ref a, y] [Value.ref a, v] := .cons rfl (.cons ry .nil)
  refine wpAny_mono (call_sub F hb hx sb I r2 q) (fun r s' z => ?_) fun _ _ x => x
  obtain ⟨z, H', I', rz, b, rfl, q'⟩ := z
  cases (show r = Value.bool b from rz)
  exact ⟨b, H', rfl, I', q'⟩
end

/-! ### built-in values that decline to be compared with an instance -/
section
open AutoSeq1 (wpAny_loadPart')
open MeetsSeq
theorem int_declines (b : Int) (u : Tok) (l C dx : Addr) : Meets (Builtin.«int.__eq__» ⟨[.int b u, .ref l], []⟩) (fun _ R s => s.heap.get? l = some (PySem.W.instObj C dx) ∧ R (.ok (.ret .notImplemented)) s) :=
  .of_wp fun prog w A R s h => by obtain ⟨hp, g, d, tk, os⟩ := s; obtain ⟨hl, h⟩ := h; unfold PySem.W.instObj at hl; wp_walk using wpAny_loadPart' hl, wpAny_load hl; exact ⟨_, rfl, h⟩
theorem bool_declines (b : Bool) (l C dx : Addr) : Meets (Builtin.«int.__eq__» ⟨[.bool b, .ref l], []⟩) (fun _ R s => s.heap.get? l = some (PySem.W.instObj C dx) ∧ R (.ok (.ret .notImplemented)) s) :=
  .of_wp fun prog w A R s h => by obtain ⟨hp, g, d, tk, os⟩ := s; obtain ⟨hl, h⟩ := h; unfold PySem.W.instObj at hl; wp_walk using wpAny_loadPart' hl, wpAny_load hl; exact ⟨_, rfl, h⟩
theorem str_declines (b : Str) (u : Tok) (l C dx : Addr) : Meets (Builtin.«str.__eq__» ⟨[.str b u, .ref l], []⟩) (fun _ R s => s.heap.get? l = some (PySem.W.instObj C dx) ∧ R (.ok (.ret .notImplemented)) s) :=
  .of_wp fun prog w A R s h => by obtain ⟨hp, g, d, tk, os⟩ := s; obtain ⟨hl, h⟩ := h; unfold PySem.W.instObj at hl; wp_walk using wpAny_loadPart' hl, wpAny_load hl; exact ⟨_, rfl, h⟩
theorem list_declines (p l C dx : Addr) (items : Array Value) (k : Nat) (dd : Option Addr) (sl : Array (Option Value)) : Meets (Builtin.«list.__eq__» ⟨[.ref p, .ref l], []⟩)
    (fun A R s => s.heap.get? p = some { cls := .type "list", dict := dd, data := .seq items k, slots := sl } ∧ s.heap.get? l = some (PySem.W.instObj C dx) ∧ (∀ M : Model, PySem.W.Looks M s.heap (isSubtype (.ref C) (.type "list")) false) ∧ R (.ok (.ret .notImplemented)) s) :=
  .of_wp fun prog w A R s h => by
    obtain ⟨hp, g, d, tk, os⟩ := s
    obtain ⟨h1, hl, hs, h⟩ := h
    unfold PySem.W.instObj at hl
    have f1 : ∀ {A : Around} {E : Value → Shared → Prop} {Q : Bool → Shared → Prop}, Q false ⟨hp, g, d, tk, os⟩ → wpAny (model prog w) A (isSubtype (.ref C) (.type "list")) Q E ⟨hp, g, d, tk, os⟩ := fun q => (hs _).here q
    wp_walk using wpAny_loadPart' h1, wpAny_loadPart' hl, f1
    exact ⟨_, rfl, h⟩
theorem tuple_declines (p l C dx : Addr) (items : Array Value) (k : Nat) (dd : Option Addr) (sl : Array (Option Value)) : Meets (Builtin.«tuple.__eq__» ⟨[.ref p, .ref l], []⟩)
    (fun A R s => s.heap.get? p = some { cls := .type "tuple", dict := dd, data := .seq items k, slots := sl } ∧ s.heap.get? l = some (PySem.W.instObj C dx) ∧ (∀ M : Model, PySem.W.Looks M s.heap (isSubtype (.ref C) (.type "tuple")) false) ∧ R (.ok (.ret .notImplemented)) s) :=
  .of_wp fun prog w A R s h => by
    obtain ⟨hp, g, d, tk, os⟩ := s
    obtain ⟨h1, hl, hs, h⟩ := h
    unfold PySem.W.instObj at hl
    have f1 : ∀ {A : Around} {E : Value → Shared → Prop} {Q : Bool → Shared → Prop}, Q false ⟨hp, g, d, tk, os⟩ → wpAny (model prog w) A (isSubtype (.ref C) (.type "tuple")) Q E ⟨hp, g, d, tk, os⟩ := fun q => (hs _).here q
    wp_walk using wpAny_loadPart' h1, wpAny_loadPart' hl, f1
    exact ⟨_, rfl, h⟩
end

section
variable {X : Cx} {CX : CXT} {n : Nat} {f C : Addr} {fd : FuncData} {ps : List Str} {sp : Sp} {E : XK}
/-- a built-in value on the left that declines, an instance on the right -/
theorem rc_refl {prog : Program} {w : World} {A : Around} {E : Value → Shared → Prop} {s : Shared} {K : PySem.W.Frag} {u : Value} {b C f : Addr} {ob : Obj} {od : Option Obj} {Ta id : String} {Q : Value → Shared → Prop} (hu : A.units < cLine) (XK : K.In s.heap)
    (ha : s.TypeIs u Ta) (h1 : Slot Ta "__eq__" id) (J : PySem.W.InstAt s.heap b ob C od) (hsub : PySem.W.mroIn K C (.type Ta) = some false) (hs : PySem.W.findIn K (.ref C) "__eq__" = some (some (.ref f))) (hf : PySem.W.isFn K (.ref f) = true)
    (hc1 : ∀ Q' : Value → Shared → Prop, Q' .notImplemented s → wpAny (model prog w) A (call (.builtin id) [u, .ref b]) Q' E s)
    (hc2 : wpAny (model prog w) A (call (.ref f) [.ref b, u]) (PySem.W.CmpBack Q) E s) : wpAny (model prog w) A (richCompare .Eq u (.ref b)) Q E s := by
  rcases hi : cmpInfo CmpOp.Eq with ⟨sym, g, r⟩
  have e1 : g = ("__eq__" : Str) := by have := congrArg (fun z => z.2.1) hi; exact this.symm
  have e2 : r = ("__eq__" : Str) := by have := congrArg (fun z => z.2.2) hi; exact this.symm
  subst e1 e2
  simp only [richCompare, hi, ha.oneThing_none]
  refine wpAny_holding ?_
  refine wpAny_bind (wpAny_cRoomFor hu ?_)
  refine wpAny_bind (wpAny_typeOf ha (wpAny_bind (J.type.here ?_)))
  rw [show (Value.type Ta != Value.ref C) = true from rfl]
  simp only [if_true]
  refine wpAny_bind ((PySem.W.looks_mroIn XK hsub).here ?_)
  simp only [Bool.false_eq_true, if_false, Bool.not_false, if_true]
  refine wpAny_bind (m := tryCompare u _ (.ref b)) (wpAny_tryCompare_declines ha h1 (hc1 _ ⟨rfl, ?_⟩))
  have one : wpAny (model prog w) A (tryCompare (.ref b) "__eq__" u) (fun r s' => ∃ v, r = some v ∧ Q v s') E s := by
    unfold tryCompare
    refine wpAny_bind (PySem.W.ifBound_K XK J hs hf (wpAny_mono hc2 (fun v s' hv => ?_) fun _ _ e => e))
    cases v <;> first | exact hv.elim | exact wpAny_pure ⟨_, rfl, hv⟩
  refine wpAny_bind (m := tryCompare (.ref b) _ u) (wpAny_mono one (fun r s' z => ?_) fun _ _ e => e)
  obtain ⟨v, rfl, hq⟩ := z
  exact wpAny_pure hq
/-- the built-in type of a plain thing -/
def plainTy (H : Hp) (K : PySem.W.Frag) : V → String → Prop
  | .non, T => T = "NoneType"
  | .bl _, T => T = "bool"
  | .int _, T => T = "int"
  | .str _, T => T = "str"
  | .ref p, T => (T = "list" ∧ ∃ xs, SqL K H p xs) ∨ (T = "tuple" ∧ ∃ xs, SqT K H p xs)
  | _, _ => False
def rEqR (K : PySem.W.Frag) (C : Addr) (sp : Sp) (E : XK) : R2 := fun x y H Q => ∃ b dy gs T, y = .ref b ∧ H b = some (.ins C dy gs) ∧ plainTy H K x T ∧ PySem.W.mroIn K C (.type T) = some false ∧ sp [y, x] H (fun v H' => ∃ b, v = .bl b ∧ Q (.bl b) H') E
theorem rc_right (F : FnOk X.prog X.w X.K X.mg X.base CX n f fd ps sp) (hs : PySem.W.findIn X.K (.ref C) "__eq__" = some (some (.ref f))) (hf : PySem.W.isFn X.K (.ref f) = true) (hb : Binds X.K fd ps []) (hx : Passes CX X E) : RcO X n (rEqR X.K C sp E) := by
  intro A pins s σ H x y u v Q sb I rx ry hq
  obtain ⟨b, dy, gs, T, rfl, hb', pt, hm, q⟩ := hq
  cases ry
  obtain ⟨mA, J0, _⟩ := ins_get I.hok hb'
  have hobj := J0.obj
  obtain ⟨od, J, _⟩ := J0.look
  have hsub : ∀ M : Model, PySem.W.Looks M s.heap (isSubtype (.ref C) (.type T)) false := fun M => PySem.W.looks_mroIn I.kIn hm
  have r2 : Vals [V.ref b, x] [Value.ref b, u] := .cons rfl (.cons rx .nil)
  have back : wpAny (model X.prog X.w) A (call (.ref f) [.ref b, u]) (PySem.W.CmpBack fun t s' => ∃ b H', t = .bool b ∧ L2.Inv X pins σ H' s' ∧ Q (.bl b) H') X.xe s := by
    refine wpAny_mono (call_sub F hb hx sb I r2 q) (fun r s' z => ?_) fun _ _ x => x
    obtain ⟨z, H', I', rz, k, rfl, q'⟩ := z
    cases (show r = Value.bool k from rz)
    exact ⟨k, H', rfl, I', q'⟩
  cases x with
  | non =>
    cases (show u = Value.none from rx)
    cases (show T = "NoneType" from pt)
    exact rc_refl sb.room.units0 I.kIn rfl PySem.F.slot_NoneType_eq J hm hs hf (fun Q' hq' => call_gives PySem.F.slot_NoneType_eq rfl PySem.F.entry_NoneType_eq (PySem.F.args_NoneType_eq_2 _ _) (SeqAt.NoneType___eq___none_ref_0 b) hq') back
  | bl k =>
    cases (show u = Value.bool k from rx)
    cases (show T = "bool" from pt)
    exact rc_refl sb.room.units0 I.kIn rfl PySem.F.slot_bool_eq J hm hs hf (fun Q' hq' => call_meets PySem.F.slot_bool_eq rfl PySem.F.entry_int_eq (PySem.F.args_int_eq_2 _ _) (bool_declines k b C _) ⟨hobj, hq'⟩) back
  | int i =>
    obtain ⟨t, rfl⟩ := (show ∃ t, u = Value.int i t from rx)
    cases (show T = "int" from pt)
    exact rc_refl sb.room.units0 I.kIn (typeIs_int s i t) PySem.F.slot_int_eq J hm hs hf (fun Q' hq' => call_meets PySem.F.slot_int_eq (typeIs_int s i t) PySem.F.entry_int_eq (PySem.F.args_int_eq_2 _ _) (int_declines i t b C _) ⟨hobj, hq'⟩) back
  | str z =>
    obtain ⟨t, rfl⟩ := (show ∃ t, u = Value.str z t from rx)
    cases (show T = "str" from pt)
    exact rc_refl sb.room.units0 I.kIn (typeIs_str s z t) PySem.F.slot_str_eq J hm hs hf (fun Q' hq' => call_meets PySem.F.slot_str_eq (typeIs_str s z t) PySem.F.entry_str_eq (PySem.F.args_str_eq_2 _ _) (str_declines z t b C _) ⟨hobj, hq'⟩) back
  | ref p =>
    cases (show u = Value.ref p from rx)
    rcases pt with ⟨rfl, xs, hp⟩ | ⟨rfl, xs, hp⟩
    · obtain ⟨its, r, pl, hz⟩ := I.list hp
      obtain ⟨⟨cls, dd, data, sl⟩, ho, hc, k, hd⟩ := pl.isList
      simp only at hc hd
      subst hc hd
      exact rc_refl sb.room.units0 I.kIn ⟨_, ho, rfl⟩ PySem.F.slot_list_eq J hm hs hf (fun Q' hq' => call_meets PySem.F.slot_list_eq ⟨_, ho, rfl⟩ PySem.F.entry_list_eq (PySem.F.args_list_eq_2 _ _) (list_declines p b C _ _ _ _ _) ⟨ho, hobj, hsub, hq'⟩) back
    · obtain ⟨its, r, pl, hz⟩ := I.tuple hp
      obtain ⟨⟨cls, dd, data, sl⟩, ho, hc, k, hd⟩ := pl
      simp only at hc hd
      subst hc hd
      exact rc_refl sb.room.units0 I.kIn ⟨_, ho, rfl⟩ PySem.F.slot_tuple_eq J hm hs hf (fun Q' hq' => call_meets PySem.F.slot_tuple_eq ⟨_, ho, rfl⟩ PySem.F.entry_tuple_eq (PySem.F.args_tuple_eq_2 _ _) (tuple_declines p b C _ _ _ _ _) ⟨ho, hobj, hsub, hq'⟩) back
  | _ => exact False.elim pt
end

/-! ### != by the object's own == -/
section
variable {prog : Program} {w : World} {M : Model} {A : Around} {E : Value → Shared → Prop} {s : Shared} {K : PySem.W.Frag} {x C f : Addr} {ox : Obj} {od : Option Obj}
theorem ifBound_B {name : Str} {id : String} {args : List Value} {Q : Option Value → Shared → Prop} (XK : K.In s.heap) (I : PySem.W.InstAt s.heap x ox C od) (hs : PySem.W.findIn K (.ref C) name = some (some (.builtin id)))
    (hb : ∀ self, bindSpecial (.builtin id) self = pure (.builtin id, [self])) (h : wpAny M A (call (.builtin id) (.ref x :: args)) (fun v => Q (some v)) E s) : wpAny M A (callSpecialIfBound? (.ref x) name args) Q E s := by
  simp only [callSpecialIfBound?, bindSpecialIfBound?]
  refine wpAny_holding (wpAny_bind (wpAny_bind (wpAny_bind (I.type.here ((PySem.W.looks_findIn XK hs).here ?_)))))
  refine wpAny_bind (wpAny_askSetting (wpAny_ite ?_))
  have fin : wpAny M A (call (.builtin id) ([.ref x] ++ args) >>= fun v => pure (some v)) Q E s := wpAny_bind (wpAny_mono h (fun v s' h' => wpAny_pure h') fun _ _ h' => h')
  split
  · exact wpAny_bind ((PySem.W.Looks.of_pure (hb _)).here (wpAny_pure (by exact fin)))
  · exact wpAny_tryCatch (wpAny_bind ((PySem.W.Looks.of_pure (hb _)).here (wpAny_pure (by exact fin))))
open Builtin in
theorem call_objNe {b : Value} {Q : Value → Shared → Prop} (hu : A.in1.units < cLine) (XK : K.In s.heap) (I : PySem.W.InstAt s.heap x ox C od) (hm : PySem.W.mroIn K C (.type "object") = some true) (hs : PySem.W.findIn K (.ref C) "__eq__" = some (some (.ref f))) (hf : PySem.W.isFn K (.ref f) = true)
    (h : wpAny (model prog w) A.in1 (call (.ref f) [.ref x, b]) (fun v s' => ∃ k, v = .bool k ∧ Q (.bool (!k)) s') E s) : wpAny (model prog w) A (call (.builtin "object.__ne__") [.ref x, b]) Q E s := by
  refine wpAny_call (codeAny_call_builtin PySem.F.cmp_object.ne.plain PySem.F.cmpEntry_ne (PySem.W.check_slot (i := "object.__ne__") (owner := "object") (n := "__ne__") (by decide +kernel) (by decide +kernel) (I.type.andThen (PySem.W.looks_mroIn XK hm)) (PySem.F.cmpArgs_ne _ _) ?_))
  unfold Builtin.«object.__ne__»
  repeat (first
    | with_reducible refine wpAny_cRoomFor hu ?_
    | (refine wpAny_bind (m := callSpecialIfBound? (.ref x) (Str.ofString "__eq__") [b])
        (PySem.W.ifBound_K XK I hs hf (wpAny_mono h (fun r s' hr => by
          obtain ⟨k, rfl, hq⟩ := hr
          repeat (first | exact hq | exact wpAny_pure hq | exact wpAny_truthy_bool hq | (refine wpAny_bind (m := truthy (.bool _)) (wpAny_truthy_bool ?_)) | wp_step)) fun _ _ e => e)))
    | wp_step)
theorem ne_K {L : Addr} {h₀ : Heap} {m : Str → Option Value} {b tb : Value} {Q : Value → Shared → Prop} (hu : A.in1.units < cLine) (hu0 : A.units < cLine) (XK : K.In s.heap) (I : PySem.W.InstAt s.heap x ox C od) (hb : PySem.W.Looks (model prog w) s.heap (typeOf b) tb) (hn : PySem.W.notFirst K C tb = true)
    (hne : PySem.W.findIn K (.ref C) "__ne__" = some (some (.builtin "object.__ne__"))) (hm : PySem.W.mroIn K C (.type "object") = some true) (hs : PySem.W.findIn K (.ref C) "__eq__" = some (some (.ref f))) (hf : PySem.W.isFn K (.ref f) = true)
    (h : wpAny (model prog w) A.in1 (call (.ref f) [.ref x, b]) (fun v s' => ∃ k, v = .bool k ∧ Q (.bool (!k)) s') E s) : wpAny (model prog w) A (richCompare .NotEq (.ref x) b) Q E s := by
  have one : wpAny (model prog w) A (tryCompare (.ref x) "__ne__" b) (fun r s' => ∃ v, r = some v ∧ Q v s') E s := by
    unfold tryCompare
    refine wpAny_bind (ifBound_B XK I hne PySem.F.cmp_object.ne.bind (call_objNe hu XK I hm hs hf (wpAny_mono h (fun v s' hv => ?_) fun _ _ e => e)))
    obtain ⟨k, rfl, hq⟩ := hv
    exact ⟨k, rfl, wpAny_pure ⟨_, rfl, hq⟩⟩
  unfold richCompare
  simp only [oneThing_ref]
  refine wpAny_holding (wpAny_bind (wpAny_cRoomFor hu0 ?_))
  refine wpAny_bind (I.type.here (wpAny_bind (hb.here ?_)))
  split
  · rename_i q
    have e : PySem.W.subIn K tb (.ref C) = some false := by
      rcases Bool.or_eq_true_iff.mp hn with e | e
      · rw [beq_iff_eq.mp e] at q; simp at q
      · exact beq_iff_eq.mp e
    refine wpAny_bind ((PySem.W.looks_subIn XK e).here ?_)
    simp only [Bool.false_eq_true, if_false]
    refine wpAny_bind (wpAny_mono one (fun r s' z => ?_) fun _ _ e => e)
    obtain ⟨v, rfl, hq⟩ := z
    exact wpAny_pure hq
  · refine wpAny_bind (wpAny_pure ?_)
    simp only [Bool.false_eq_true, if_false]
    refine wpAny_bind (wpAny_mono one (fun r s' z => ?_) fun _ _ e => e)
    obtain ⟨v, rfl, hq⟩ := z
    exact wpAny_pure hq
end
section
variable {X : Cx} {CX : CXT} {n : Nat} {f C : Addr} {fd : FuncData} {ps : List Str} {sp : Sp} {E : XK}
def rNeO (K : PySem.W.Frag) (C : Addr) (sp : Sp) (E : XK) : R2 := fun x y H Q => ∃ a dx fs t, x = .ref a ∧ H a = some (.ins C dx fs) ∧ TyX K H y t ∧ PySem.W.notFirst K C t = true ∧ sp [x, y] H (fun v H' => ∃ b, v = .bl b ∧ Q (.bl (!b)) H') E
theorem op_neO (F : FnOk X.prog X.w X.K X.mg X.base CX n f fd ps sp) (hs : PySem.W.findIn X.K (.ref C) "__eq__" = some (some (.ref f))) (hf : PySem.W.isFn X.K (.ref f) = true) (hb : Binds X.K fd ps []) (hx : Passes CX X E)
    (hne : PySem.W.findIn X.K (.ref C) "__ne__" = some (some (.builtin "object.__ne__"))) (hm : PySem.W.mroIn X.K C (.type "object") = some true) (hr : Room (n + 1) X.A) : OpR X (compareOp .NotEq) (rNeO X.K C sp E) := by
  intro pins s σ H x y u v Q I rx ry hq
  obtain ⟨a, dx, fs, t, rfl, ha, ty, hn, q⟩ := hq
  cases rx
  obtain ⟨mA, J, _⟩ := ins_get I.hok ha
  obtain ⟨od, J, _⟩ := J.look
  obtain ⟨P, Z, p, _⟩ := kit_of I ry ty
  have sb : Sub X (n + 1) X.A := ⟨hr, rfl⟩
  show wpAny (model X.prog X.w) X.A (richCompare .NotEq (.ref a) v) (EP X pins σ Q) X.xe s
  have r2 : Vals [V.ref a, y] [Value.ref a, v] := .cons rfl (.cons ry .nil)
  refine ne_K (L := 0) (h₀ := s.heap) (m := fun _ => none) sb.in1.room.units0 sb.room.units0 I.kIn J (Z.ty _ _ I.kIn p) hn hne hm hs hf ?_
  refine wpAny_mono (call_sub F hb hx sb.in1 I r2 q) (fun r s' z => ?_) fun _ _ x => x
  obtain ⟨z, H', I', rz, b, rfl, q'⟩ := z
  cases (show r = Value.bool b from rz)
  exact ⟨b, rfl, .bl (!b), H', I', rfl, q'⟩
end

/-! ### x in [z], [x] == [y], (c, x) == (c, y), by ==  -/
section
open AutoSeq1 (wpAny_loadPart')
open MeetsSeq MeetsSeq2 MeetsSeq3 SeqRoads2 SeqAt
variable {prog : Program} {w : World} {A : Around} {R : Result → Shared → Prop}
/-- the list at l holds one thing -/
def One (s : Shared) (l : Addr) (z : Value) : Prop := ∃ (items : Array Value) (n : Nat), s.heap.get? l = some { cls := .type "list", data := .seq items n } ∧ items[(0 : Int).toNat]? = some z ∧ items[((0 : Int) + 1).toNat]? = none ∧ items.size = 1
theorem One.of {s : Shared} {l : Addr} {z : Value} {n : Nat} (h : s.heap.get? l = some { cls := .type "list", data := .seq #[z] n }) : One s l z := ⟨#[z], n, h, rfl, rfl, rfl⟩
theorem contains_loop1 (l : Addr) (x z : Value) {s : Shared} (h0 : One s l z) (h : R (.ok (.ret (.bool false))) s) :
    wpAny (model prog w) A.in1 (Builtin.«list.__contains__.loop» ⟨[.ref l, x, rawInt ((0 : Int) + 1)], []⟩) (GQ.FinOf prog w A R) (fun e s' => R (.error e) s') s := by
  obtain ⟨items, n, hl, e0, e1, _⟩ := h0
  obtain ⟨hp, g, d, tk, os⟩ := s
  wp_walk using wpAny_loadPart' hl
  rw [e1]
  wp_walk
  exact h
theorem contains1 (l : Addr) (x z : Value) {s : Shared} (h0 : One s l z)
    (he : wpAny (model prog w) A.in1 (eqBool z x) (fun b s' => (∃ z', One s' l z') ∧ R (.ok (.ret (.bool b))) s') (fun e s' => R (.error e) s') s) :
    wpAny (model prog w) A.in1 (Builtin.«list.__contains__» ⟨[.ref l, x], []⟩) (GQ.FinOf prog w A R) (fun e s' => R (.error e) s') s := by
  have step : wpAny (model prog w) A.in1 (Builtin.«list.__contains__.loop» ⟨[.ref l, x, rawInt (0 : Int)], []⟩) (GQ.FinOf prog w A R) (fun e s' => R (.error e) s') s := by
    obtain ⟨items, n, hl, e0, e1, _⟩ := h0
    obtain ⟨hp, g, d, tk, os⟩ := s
    wp_walk using wpAny_loadPart' hl
    rw [e0]
    refine wpAny_bind (wpAny_mono he (fun b s2 h2 => ?_) fun _ _ x => x)
    obtain ⟨⟨z', p2⟩, q2⟩ := h2
    cases b with
    | true =>
      wp_walk
      exact q2
    | false =>
      have nx := contains_loop1 (A := A) (w := w) (prog := prog) (R := R) l x z' p2 q2
      obtain ⟨hp2, g2, d2, tk2, os2⟩ := s2
      wp_walk
      exact ⟨plainId_quiet plain_contains_loop _, codeAny_builtin entry_contains_loop (by
        rw [Around.under_plainId plain_contains_loop _]
        exact nx)⟩
  obtain ⟨items, n, hl, e0, e1, _⟩ := h0
  obtain ⟨hp, g, d, tk, os⟩ := s
  wp_walk using wpAny_loadPart' hl
  exact ⟨plainId_quiet plain_contains_loop _, codeAny_builtin entry_contains_loop (by
    rw [Around.under_plainId plain_contains_loop _]
    exact step)⟩
theorem eq_list1_loop (l b : Addr) (x y : Value) {s : Shared} (h0 : One s l x ∧ One s b y) (h : R (.ok (.ret (.bool true))) s) :
    wpAny (model prog w) A.in1 (Builtin.«list.__eq__.loop» ⟨[.ref l, .ref b, rawInt ((0 : Int) + 1), rawInt 2], []⟩) (GQ.FinOf prog w A R) (fun e s' => R (.error e) s') s := by
  obtain ⟨⟨items, n, hl, e0, e1, z1⟩, items2, n2, hb, f0, f1, z2⟩ := h0
  obtain ⟨hp, g, d, tk, os⟩ := s
  wp_walk using wpAny_loadPart' hl, wpAny_loadPart' hb
  rw [e1, f1]
  wp_walk using wpAny_loadPart' hl, wpAny_loadPart' hb
  show R (.ok (.ret (.bool (items.size == items2.size)))) _
  rw [z1, z2]
  exact h
theorem eq_list1 (l b : Addr) (x y : Value) {s : Shared} (h0 : One s l x ∧ One s b y)
    (he : wpAny (model prog w) A.in1 (eqBool x y) (fun k s' => (∃ x' y', One s' l x' ∧ One s' b y') ∧ R (.ok (.ret (.bool k))) s') (fun e s' => R (.error e) s') s) :
    wpAny (model prog w) A.in1 (Builtin.«list.__eq__» ⟨[.ref l, .ref b], []⟩) (GQ.FinOf prog w A R) (fun e s' => R (.error e) s') s := by
  have step : wpAny (model prog w) A.in1 (Builtin.«list.__eq__.loop» ⟨[.ref l, .ref b, rawInt (0 : Int), rawInt 2], []⟩) (GQ.FinOf prog w A R) (fun e s' => R (.error e) s') s := by
    obtain ⟨⟨items, n, hl, e0, e1, z1⟩, items2, n2, hb, f0, f1, z2⟩ := h0
    obtain ⟨hp, g, d, tk, os⟩ := s
    wp_walk using wpAny_loadPart' hl, wpAny_loadPart' hb
    rw [e0, f0]
    refine wpAny_bind (wpAny_mono he (fun k s2 h2 => ?_) fun _ _ x => x)
    obtain ⟨⟨x', y', p2⟩, q2⟩ := h2
    cases k with
    | true =>
      have nx := eq_list1_loop (A := A) (w := w) (prog := prog) (R := R) l b x' y' p2 q2
      obtain ⟨hp2, g2, d2, tk2, os2⟩ := s2
      wp_walk
      exact ⟨plainId_quiet plain_eq_loop _, codeAny_builtin entry_eq_loop (by
        rw [Around.under_plainId plain_eq_loop _]
        exact nx)⟩
    | false =>
      obtain ⟨⟨items, n, hl, e0, e1, z1⟩, items2, n2, hb, f0, f1, z2⟩ := p2
      obtain ⟨hp2, g2, d2, tk2, os2⟩ := s2
      wp_walk using wpAny_loadPart' hl, wpAny_loadPart' hb
      rw [e0, f0]
      wp_walk
      exact q2
  obtain ⟨⟨items, n, hl, e0, e1, z1⟩, items2, n2, hb, f0, f1, z2⟩ := h0
  obtain ⟨hp, g, d, tk, os⟩ := s
  have f3 := AutoSeq1.sub_list_list
  have hne : ¬ (items.size != items2.size) = true := by simp [z1, z2]
  wp_walk using wpAny_loadPart' hl, wpAny_loadPart' hb
  exact ⟨plainId_quiet plain_eq_loop _, codeAny_builtin entry_eq_loop (by
    rw [Around.under_plainId plain_eq_loop _]
    exact step)⟩
/-- tuples of any length: each two of items compared in turn, to the first that differ; e tells how each comes out -/
theorem tuple_eqB (l b : Addr) (items items2 : Array Value) (n n2 : Nat) (dd dd2 : Option Addr) (sl sl2 : Array (Option Value)) (hsz : items.size = items2.size) (I : Nat → Shared → Prop) (F : Shared → Prop)
    (turn : ∀ i (h1 : i < items.size) (h2 : i < items2.size) s, I i s → wpAny (model prog w) A.in1 (eqBool items[i] items2[i]) (fun r s' => if r = true then I (i + 1) s' else F s') (fun e s' => R (.error e) s') s)
    (fin : ∀ s, I items.size s → R (.ok (.ret (.bool true))) s) (bad : ∀ s, F s → R (.ok (.ret (.bool false))) s) {s : Shared} (hl1 : s.heap.get? l = some { cls := .type "tuple", dict := dd, data := .seq items n, slots := sl }) (hb1 : s.heap.get? b = some { cls := .type "tuple", dict := dd2, data := .seq items2 n2, slots := sl2 }) (h : I 0 s) :
    wpAny (model prog w) A.in1 (Builtin.«tuple.__eq__» ⟨[.ref l, .ref b], []⟩) (GQ.FinOf prog w A R) (fun e s' => R (.error e) s') s := by
  have f2 := AutoSeq1.sub_tuple_tuple
  have hZ : (items.toList.zip items2.toList).length = items.size := by simp [hsz]
  have h0 := h
  obtain ⟨hp, g, d, tk, os⟩ := s
  wp_walk using wpAny_loadPart' hl1, wpAny_loadPart' hb1, wpAny_forIn_list _ (fun rest b s' => b.1 = none ∧ ∃ i, rest = (items.toList.zip items2.toList).drop i ∧ i ≤ items.size ∧ I i s') _
  case turn =>
    rintro ⟨y, x⟩ rest b s' ⟨hb', i, hz, hi, hI⟩
    have hlt : i < (items.toList.zip items2.toList).length := by
      rcases Nat.lt_or_ge i (items.toList.zip items2.toList).length with h' | h'
      · exact h'
      · rw [List.drop_of_length_le h'] at hz; cases hz
    have h1 : i < items.size := hZ ▸ hlt
    have h2 : i < items2.size := hsz ▸ h1
    rw [List.drop_eq_getElem_cons hlt] at hz
    injection hz with hyx hrest
    have hy : y = items[i] := by have := congrArg Prod.fst hyx; simpa using this
    have hx : x = items2[i] := by have := congrArg Prod.snd hyx; simpa using this
    subst hy hx
    refine wpAny_bind (wpAny_mono (turn i h1 h2 s' hI) (fun r s2 q2 => ?_) fun _ _ x => x)
    cases r with
    | true =>
      wp_walk
      exact ⟨rfl, i + 1, hrest, h1, q2⟩
    | false =>
      wp_walk
      exact bad _ q2
  case fin =>
    rintro ⟨b1, b2⟩ s' ⟨hb', i, hz, hi, hI⟩
    simp only at hb'
    subst hb'
    have hge : items.size ≤ i := by
      rcases Nat.lt_or_ge i (items.toList.zip items2.toList).length with h' | h'
      · rw [List.drop_eq_getElem_cons h'] at hz; cases hz
      · exact hZ ▸ h'
    have hi' : i = items.size := by omega
    have hR : R (.ok (.ret (.bool true))) s' := fin s' (hi' ▸ hI)
    wp_walk
    simpa [Builtin.Tuple.tupleCompareSizes, hsz] using hR
  case h =>
    exact ⟨rfl, 0, rfl, Nat.zero_le _, h0⟩
end
section
variable {prog : Program} {w : World} {A : Around} {R : Result → Shared → Prop}
theorem tuple_eq2 (l b : Addr) (c1 c2 x y : Value) (n n2 : Nat) (dd dd2 : Option Addr) (sl sl2 : Array (Option Value)) {s : Shared} (Tr Fa : Shared → Prop)
    (t0 : wpAny (model prog w) A.in1 (eqBool c1 c2) (fun r s' => r = true ∧ s' = s) (fun e s' => R (.error e) s') s)
    (t1 : wpAny (model prog w) A.in1 (eqBool x y) (fun r s' => if r = true then Tr s' else Fa s') (fun e s' => R (.error e) s') s)
    (fin : ∀ s, Tr s → R (.ok (.ret (.bool true))) s) (bad : ∀ s, Fa s → R (.ok (.ret (.bool false))) s) (hl1 : s.heap.get? l = some { cls := .type "tuple", dict := dd, data := .seq #[c1, x] n, slots := sl }) (hb1 : s.heap.get? b = some { cls := .type "tuple", dict := dd2, data := .seq #[c2, y] n2, slots := sl2 }) :
    wpAny (model prog w) A.in1 (Builtin.«tuple.__eq__» ⟨[.ref l, .ref b], []⟩) (GQ.FinOf prog w A R) (fun e s' => R (.error e) s') s := by
  refine tuple_eqB l b #[c1, x] #[c2, y] n n2 dd dd2 sl sl2 rfl (fun i s' => (i = 0 ∧ s' = s) ∨ (i = 1 ∧ s' = s) ∨ (i = 2 ∧ Tr s')) Fa (fun i h1 h2 s' hI => ?_) (fun s' hI => ?_) bad hl1 hb1 (.inl ⟨rfl, rfl⟩)
  · rcases hI with ⟨rfl, rfl⟩ | ⟨rfl, rfl⟩ | ⟨rfl, _⟩
    · show wpAny _ _ (eqBool c1 c2) _ _ _
      refine wpAny_mono t0 (fun r s2 z => ?_) fun _ _ x => x
      obtain ⟨rfl, rfl⟩ := z
      rw [if_pos rfl]
      exact .inr (.inl ⟨rfl, rfl⟩)
    · show wpAny _ _ (eqBool x y) _ _ _
      refine wpAny_mono t1 (fun r s2 z => ?_) fun _ _ x => x
      cases r with
      | true =>
        rw [if_pos rfl] at z ⊢
        exact .inr (.inr ⟨rfl, z⟩)
      | false =>
        rw [if_neg Bool.false_ne_true] at z ⊢
        exact z
    · exact absurd h1 (by simp)
  · rcases hI with ⟨e, _⟩ | ⟨e, _⟩ | ⟨_, h⟩
    · exact absurd e (by simp)
    · exact absurd e (by simp)
    · exact fin s' h
end
/-! ### the operators -/
section
open SeqRoads2
variable {X : Cx} {n : Nat} {r : R2}
theorem one_of {pins : List (Addr × Obj)} {σ : L2.St} {H : Hp} {s : Shared} {a : Addr} {x : V} (I : L2.Inv X pins σ H s) (h : H a = some (.lst [x])) : ∃ u, RelV x u ∧ One s a u := by
  obtain ⟨z, its, k, rv, e⟩ := I.hok a _ h
  cases rv with
  | cons r1 r2 =>
    cases r2
    exact ⟨_, r1, One.of e⟩
theorem one_eq {s : Shared} {a : Addr} {u v : Value} (h1 : One s a u) (h2 : One s a v) : u = v := by
  obtain ⟨i1, n1, g1, e1, _, _⟩ := h1
  obtain ⟨i2, n2, g2, e2, _, _⟩ := h2
  rw [g1] at g2
  cases g2
  rw [e1] at e2
  exact Option.some.inj e2
/-- x in [z] -/
def rIn1 (r : R2) : R2 := fun x y H Q => ∃ p z, y = .ref p ∧ H p = some (.lst [z]) ∧ r z x H (fun t H' => Ext H H' ∧ Q t H')
theorem op_in1 (h : EqO X n r) (hr : Room (n + 1) X.A) : OpR X (compareOp .In) (rIn1 r) := by
  intro pins s σ H x y v u Q I rx ry hq
  obtain ⟨p, z, rfl, hp, q⟩ := hq
  cases ry
  have sb : Sub X (n + 1) X.A := ⟨hr, rfl⟩
  obtain ⟨zu, rz, o1⟩ := one_of I hp
  obtain ⟨items, k, hl, _⟩ := id o1
  show wpAny _ X.A (do return .bool (← contains (.ref p) v)) (EP X pins σ Q) X.xe s
  refine wpAny_bind (wpAny_contains_slot ⟨_, hl, rfl⟩ PySem.F.slot_list_contains (wpAny_mono (GQ.call_here (A := X.A) (E := X.xe) (Q := fun t s' => ∃ b H', t = .bool b ∧ L2.Inv X pins σ H' s' ∧ Q (.bl b) H') PySem.F.slot_list_contains ⟨_, hl, rfl⟩ PySem.F.entry_list_contains (PySem.F.args_list_contains_2 _ _) ?_) (fun t s' hv => ?_) fun _ _ e => e))
  · refine contains1 p v zu o1 ?_
    refine wpAny_mono (h X.A.in1 pins s σ H z x zu v _ sb.in1 I rz rx q) (fun b s' hb => ?_) fun _ _ x => x
    obtain ⟨H', I', ex, q'⟩ := hb
    obtain ⟨zu', rz', o2⟩ := one_of I' (ex _ _ hp)
    exact ⟨⟨zu', o2⟩, b, H', rfl, I', q'⟩
  · obtain ⟨b, H', rfl, I', q'⟩ := hv
    exact wpAny_truthy_bool (wpAny_pure ⟨.bl b, H', I', rfl, q'⟩)
/-- [x] == [y] -/
def rEqL1 (r : R2) : R2 := fun u v H Q => ∃ a b x y, u = .ref a ∧ v = .ref b ∧ H a = some (.lst [x]) ∧ H b = some (.lst [y]) ∧ r x y H (fun t H' => Ext H H' ∧ Q t H')
theorem rc_list1 (h : EqO X n r) : RcO X (n + 1) (rEqL1 r) := by
  intro A pins s σ H x y u v Q sb I rx ry hq
  obtain ⟨a, b, x1, y1, rfl, rfl, ha, hb, q⟩ := hq
  cases rx
  cases ry
  obtain ⟨xu, rxu, o1⟩ := one_of I ha
  obtain ⟨yu, ryu, o2⟩ := one_of I hb
  obtain ⟨items, k, hl, _⟩ := id o1
  obtain ⟨items2, k2, hl2, _⟩ := id o2
  refine wpAny_richCompare_same_room (op := .Eq) ⟨_, hl, rfl⟩ ⟨_, hl2, rfl⟩ PySem.F.slot_list_eq (GQ.call_here PySem.F.slot_list_eq ⟨_, hl, rfl⟩ PySem.F.entry_list_eq (PySem.F.args_list_eq_2 _ _) ?_) sb.room.units0
  refine eq_list1 (R := wants (fun v s' => v ≠ .notImplemented ∧ ∃ b H', v = .bool b ∧ L2.Inv X pins σ H' s' ∧ Q (.bl b) H') X.xe) a b xu yu ⟨o1, o2⟩ ?_
  refine wpAny_mono (h A.in1 pins s σ H x1 y1 xu yu _ sb.in1 I rxu ryu q) (fun k s' hk => ?_) fun _ _ x => x
  obtain ⟨H', I', ex, q'⟩ := hk
  obtain ⟨xu', _, p1⟩ := one_of I' (ex _ _ ha)
  obtain ⟨yu', _, p2⟩ := one_of I' (ex _ _ hb)
  exact ⟨⟨xu', yu', p1, p2⟩, (fun z => nomatch z), k, H', rfl, I', q'⟩
/-- (c, x) == (d, y), c and d ints that are the same -/
def rEqT2 (K : PySem.W.Frag) (r : R2) : R2 := fun u v H Q => ∃ a b c x y, u = .ref a ∧ v = .ref b ∧ SqT K H a [.int c, x] ∧ SqT K H b [.int c, y] ∧ r x y H Q
theorem rc_tup2 (h : EqO X n r) : RcO X (n + 1) (rEqT2 X.K r) := by
  intro A pins s σ H x y u v Q sb I rx ry hq
  obtain ⟨a, b, c, x1, y1, rfl, rfl, ha, hb, q⟩ := hq
  cases rx
  cases ry
  obtain ⟨its, rv, pl, _⟩ := I.tuple ha
  obtain ⟨its2, rv2, pl2, _⟩ := I.tuple hb
  obtain ⟨⟨cls, dd, data, sl⟩, ho, hc, k, hd⟩ := id pl
  obtain ⟨⟨cls2, dd2, data2, sl2⟩, ho2, hc2, k2, hd2⟩ := id pl2
  simp only at hc hd hc2 hd2
  subst hc hd hc2 hd2
  cases rv with
  | cons r1 rv =>
  cases rv with
  | cons r2 rv =>
  cases rv
  cases rv2 with
  | cons q1 rv2 =>
  cases rv2 with
  | cons q2 rv2 =>
  cases rv2
  obtain ⟨t1, rfl⟩ := r1
  obtain ⟨t2, rfl⟩ := q1
  rename_i xu yu
  refine wpAny_richCompare_same_room (op := .Eq) ⟨_, ho, rfl⟩ ⟨_, ho2, rfl⟩ PySem.F.slot_tuple_eq (GQ.call_here PySem.F.slot_tuple_eq ⟨_, ho, rfl⟩ PySem.F.entry_tuple_eq (PySem.F.args_tuple_eq_2 _ _) ?_) sb.room.units0
  refine tuple_eq2 (R := wants (fun v s' => v ≠ .notImplemented ∧ ∃ b H', v = .bool b ∧ L2.Inv X pins σ H' s' ∧ Q (.bl b) H') X.xe) a b (.int c t1) (.int c t2) xu yu k k2 dd dd2 sl sl2
    (fun s' => ∃ H', L2.Inv X pins σ H' s' ∧ Q (.bl true) H') (fun s' => ∃ H', L2.Inv X pins σ H' s' ∧ Q (.bl false) H') ?_ ?_ ?_ ?_ ho ho2
  · exact (SeqAt.EqAt.int_int c t1 c t2) X.prog X.w _ _ ⟨beq_self_eq_true c, rfl⟩
  · refine wpAny_mono (h A.in1 pins s σ H x1 y1 xu yu _ sb.in1 I r2 q2 q) (fun k s2 hk => ?_) fun _ _ x => x
    obtain ⟨H', I', q'⟩ := hk
    cases k with
    | true => exact ⟨H', I', q'⟩
    | false => exact ⟨H', I', q'⟩
  · rintro s' ⟨H', I', q'⟩
    exact ⟨(fun z => nomatch z), true, H', rfl, I', q'⟩
  · rintro s' ⟨H', I', q'⟩
    exact ⟨(fun z => nomatch z), false, H', rfl, I', q'⟩
end

/-! ### str(x), repr(x), f"{x}" of an instance -/
section
variable {X : Cx} {CX : CXT} {n : Nat} {f C : Addr} {fd : FuncData} {ps : List Str} {sp : Sp} {E : XK}
def rTextO (C : Addr) (sp : Sp) (E : XK) : List V → Hp → VK → Prop := fun xs H Q => ∃ a dx fs, xs = [.ref a] ∧ H a = some (.ins C dx fs) ∧ sp xs H (fun v H' => ∃ z, v = .str z ∧ Q (.str z) H') E
theorem text_back {pins : List (Addr × Obj)} {σ : L2.St} {Q : VK} {r : Value} {s' : Shared} (z : EP X pins σ (fun v H' => ∃ z, v = .str z ∧ Q (.str z) H') r s') : PySem.W.StrBack (EP X pins σ Q) r s' := by
  obtain ⟨y, H', I', ry, z, rfl, q'⟩ := z
  obtain ⟨t, rfl⟩ := (show ∃ t, r = Value.str z t from ry)
  exact ⟨.str z, H', I', ⟨t, rfl⟩, q'⟩
theorem call_strO (F : FnOk X.prog X.w X.K X.mg X.base CX n f fd ps sp) (hs : PySem.W.findIn X.K (.ref C) "__str__" = some (some (.ref f))) (hf : PySem.W.isFn X.K (.ref f) = true) (hb : Binds X.K fd ps []) (hx : Passes CX X E) (hr : Room (n + 2) X.A) :
    CallR X (.type "str") (rTextO C sp E) := by
  intro pins s σ H xs us Q I r h
  obtain ⟨a, dx, fs, rfl, ha, q⟩ := h
  have r2 : Vals [V.ref a] [Value.ref a] := .cons rfl .nil
  rw [Vals.ref1 r]
  obtain ⟨mA, J, _⟩ := ins_get I.hok ha
  obtain ⟨od, J, _⟩ := J.look
  have sb : Sub X (n + 2) X.A := ⟨hr, rfl⟩
  exact PySem.W.kso_call sb.in1.in1.room.units0 I.kIn J hs hf (wpAny_mono (call_sub F hb hx sb.in1.in1 I r2 q) (fun r s' z => text_back z) fun _ _ x => x)
theorem call_reprO (F : FnOk X.prog X.w X.K X.mg X.base CX n f fd ps sp) (hs : PySem.W.findIn X.K (.ref C) "__repr__" = some (some (.ref f))) (hf : PySem.W.isFn X.K (.ref f) = true) (hb : Binds X.K fd ps []) (hx : Passes CX X E) (hr : Room (n + 1) X.A) :
    CallR X (.builtin "repr") (rTextO C sp E) := by
  intro pins s σ H xs us Q I r h
  obtain ⟨a, dx, fs, rfl, ha, q⟩ := h
  have r2 : Vals [V.ref a] [Value.ref a] := .cons rfl .nil
  rw [Vals.ref1 r]
  obtain ⟨mA, J, _⟩ := ins_get I.hok ha
  obtain ⟨od, J, _⟩ := J.look
  obtain ⟨m, hF⟩ := I.fr
  have sb : Sub X (n + 1) X.A := ⟨hr, rfl⟩
  exact PySem.W.repr_K sb.in1.room.units0 hF I.ok.mod.kin J hs hf (wpAny_mono (call_sub F hb hx sb.in1 I r2 q) (fun r s' z => text_back z) fun _ _ x => x)
def tFmtO (C : Addr) (sp : Sp) (E : XK) (te : TE) : TE := fun σ H Q => te σ H fun x H1 => rTextO C sp E [x] H1 Q
theorem pe_fmtO {e : Expr} {te : TE} {pos : Pos} (F : FnOk X.prog X.w X.K X.mg X.base CX n f fd ps sp) (hs : PySem.W.findIn X.K (.ref C) "__str__" = some (some (.ref f))) (hf : PySem.W.isFn X.K (.ref f) = true) (hb : Binds X.K fd ps []) (hx : Passes CX X E)
    (hfm : PySem.W.findIn X.K (.ref C) "__format__" = some (some (.builtin "object.__format__"))) (hm : PySem.W.mroIn X.K C (.type "object") = some true) (hr : Room (n + 1) X.A) (he : PE X e te) : PE X (.FormattedValue e (-1) none pos) (tFmtO C sp E te) := by
  refine ⟨fun pins s σ H Q I h => ?_⟩
  refine wpAny_FormattedValue_plain (thn (he.run pins s σ H _ I h) fun v s1 hv => ?_)
  obtain ⟨x, H1, I1, r1, a, dx, fs, e1, ha, q⟩ := hv
  cases e1
  cases r1
  have r2 : Vals [V.ref a] [Value.ref a] := .cons rfl .nil
  have I2 := I1.tok (s1.toks + 1)
  obtain ⟨mA, J, _⟩ := ins_get I1.hok ha
  obtain ⟨od, J, _⟩ := J.look
  have sb : Sub X (n + 1) X.A := ⟨hr, rfl⟩
  exact PySem.W.kfo_fieldS sb.in1.room.units0 I1.kIn J hfm hm hs hf (wpAny_mono (call_sub F hb hx sb.in1 I2 r2 q) (fun r s' z => text_back z) fun _ _ x => x)
end
end UO
namespace UO
open PySem L2
/-! ### what the top leaves of a class whose instances are compared -/
def sixT : List String := ["NoneType", "bool", "int", "str", "list", "tuple"]
structure InsX (K : PySem.W.Frag) (C : Addr) : Prop where
  cla : PySem.W.findIn K (.ref C) "__class__" = some (some (.builtin "object.__class__"))
  spe : PySem.W.specialIn K (.builtin "object.__class__") "__get__" = some (some (.builtin "getset_descriptor.__get__"))
  tak : PySem.W.takesIn K (.builtin "object.__class__") = some true
  mro : PySem.W.mroIn K C (.type "object") = some true
  ne : PySem.W.findIn K (.ref C) "__ne__" = some (some (.builtin "object.__ne__"))
  fmt : PySem.W.findIn K (.ref C) "__format__" = some (some (.builtin "object.__format__"))
  kit : ∀ T ∈ sixT, PySem.W.kitOne K (.type T) (.ref C) = some false
  sub : ∀ T ∈ sixT, PySem.W.mroIn K C (.type T) = some false
  fst : ∀ T ∈ sixT, PySem.W.subIn K (.type T) (.ref C) = some false
def insB (x : Str) (K : PySem.W.Frag) : Bool :=
  decide (PySem.W.findIn K (.ref (He.ga K x)) "__class__" = some (some (.builtin "object.__class__"))) && (decide (PySem.W.specialIn K (.builtin "object.__class__") "__get__" = some (some (.builtin "getset_descriptor.__get__"))) &&
  (decide (PySem.W.takesIn K (.builtin "object.__class__") = some true) && (decide (PySem.W.mroIn K (He.ga K x) (.type "object") = some true) && (decide (PySem.W.findIn K (.ref (He.ga K x)) "__ne__" = some (some (.builtin "object.__ne__"))) &&
  (decide (PySem.W.findIn K (.ref (He.ga K x)) "__format__" = some (some (.builtin "object.__format__"))) && (sixT.all (fun T => decide (PySem.W.kitOne K (.type T) (.ref (He.ga K x)) = some false)) &&
  (sixT.all (fun T => decide (PySem.W.mroIn K (He.ga K x) (.type T) = some false)) && sixT.all (fun T => decide (PySem.W.subIn K (.type T) (.ref (He.ga K x)) = some false)))))))))
theorem insB_ok {x : Str} {K : PySem.W.Frag} (h : insB x K = true) : InsX K (He.ga K x) := by
  obtain ⟨h1, h⟩ := He.ba h
  obtain ⟨h2, h⟩ := He.ba h
  obtain ⟨h3, h⟩ := He.ba h
  obtain ⟨h4, h⟩ := He.ba h
  obtain ⟨h5, h⟩ := He.ba h
  obtain ⟨h6, h⟩ := He.ba h
  obtain ⟨h7, h⟩ := He.ba h
  obtain ⟨h8, h9⟩ := He.ba h
  exact ⟨of_decide_eq_true h1, of_decide_eq_true h2, of_decide_eq_true h3, of_decide_eq_true h4, of_decide_eq_true h5, of_decide_eq_true h6, fun T hT => of_decide_eq_true (List.all_eq_true.mp h7 T hT),
    fun T hT => of_decide_eq_true (List.all_eq_true.mp h8 T hT), fun T hT => of_decide_eq_true (List.all_eq_true.mp h9 T hT)⟩
theorem InsX.ty {K : PySem.W.Frag} {C : Addr} (ix : InsX K C) (cl : Cls K C) {H : Hp} {a dx : Addr} {fs : List (Str × V)} (h : H a = some (.ins C dx fs)) : TyX K H (.ref a) (.ref C) := .base (.ins h cl ix.cla ix.spe ix.tak ix.mro)
theorem kit_self (K : PySem.W.Frag) (C : Addr) : PySem.W.kitOne K (.ref C) (.ref C) = some true := by
  unfold PySem.W.kitOne
  rw [if_pos (beq_self_eq_true _)]
theorem first_self (K : PySem.W.Frag) (C : Addr) : PySem.W.notFirst K C (.ref C) = true := by
  unfold PySem.W.notFirst
  rw [beq_self_eq_true, Bool.true_or]
theorem InsX.first {K : PySem.W.Frag} {C : Addr} (ix : InsX K C) {T : String} (hT : T ∈ sixT) : PySem.W.notFirst K C (.type T) = true := by
  unfold PySem.W.notFirst
  rw [ix.fst T hT, beq_self_eq_true, Bool.or_true]
theorem plain_ty {K : PySem.W.Frag} {H : Hp} {x : V} {T : String} (h : plainTy H K x T) : TyX K H x (.type T) ∧ T ∈ sixT := by
  cases x with
  | non => cases (show T = "NoneType" from h); exact ⟨.base .non, by decide⟩
  | bl b => cases (show T = "bool" from h); exact ⟨.base (.bl b), by decide⟩
  | int i => cases (show T = "int" from h); exact ⟨.base (.int i), by decide⟩
  | str z => cases (show T = "str" from h); exact ⟨.base (.str z), by decide⟩
  | ref p =>
    rcases h with ⟨rfl, xs, (h | ⟨o, h⟩) | ⟨o, its, n, h1, h2, _⟩⟩ | ⟨rfl, xs, (h | ⟨o, h⟩) | ⟨o, its, n, h1, h2, _⟩⟩
    · exact ⟨.base (.lst h), by decide⟩
    · exact ⟨.base (.frz h), by decide⟩
    · exact ⟨.kList h1 h2, by decide⟩
    · exact ⟨.base (.tup h), by decide⟩
    · exact ⟨.fTuple h, by decide⟩
    · exact ⟨.kTuple h1 h2, by decide⟩
  | _ => exact False.elim h
/-! ### a Hook with one more Bool -/
abbrev AlB : Type := He.AlD × Bool
def obsB (n : Nat) (fa : List He.Fa) (fn : List He.DefD) (ex : PySem.W.Frag → Bool) (g : Addr → Option Obj) : AlB := (He.obsDG n fa fn g, ex (He.frG g (He.asD g n)))
def hookB (n : Nat) (fa : List He.Fa) (fn : List He.DefD) (ex : PySem.W.Frag → Bool) : PySem.W.Hook where
  α := AlB
  obs := fun s => obsB n fa fn ex s.heap.get?
  val := fun _ => (He.valD fn, true)
  says := fun _ h => ∃ K : PySem.W.Frag, K.In h ∧ He.SaysD fa fn K ∧ ex K = true
  of := fun _ _ e => ⟨_, He.frG_in, congrArg (fun z : AlB => z.1) e, congrArg (fun z : AlB => z.2) e⟩
  keeps := fun _ _ _ ⟨K, hK, c⟩ k => ⟨K, PySem.W.Frag.In.keeps hK k, c⟩
theorem obsB_eq {n : Nat} {fa : List He.Fa} {fn : List He.DefD} {ex : PySem.W.Frag → Bool} {g : Addr → Option Obj} {s : Shared} (h : ∀ a, g a = s.heap.get? a) : obsB n fa fn ex g = (hookB n fa fn ex).obs s := by
  have e : g = s.heap.get? := funext h
  rw [e] <;> rfl
end UO
namespace UO
open PySem L2
/-! ### keyword defaults that are empty tuples -/
def kwAdr (K : PySem.W.Frag) (f : Str × Option Str) (x : Str) : Addr := match K.lookup (He.fAd K f) with
  | some ⟨_, _, .func fd, _⟩ => (match fd.kwdefaults with
    | .ref D => (match PySem.W.nsIn K D x with
      | some (some (.ref a)) => a
      | _ => 0)
    | _ => 0)
  | _ => 0
def tup0B (K : PySem.W.Frag) (a : Addr) : Bool := match K.lookup a with
  | some ⟨.type c, _, .seq its _, _⟩ => decide (c = "tuple") && decide (its.size = 0)
  | _ => false
theorem tup0B_ok {K : PySem.W.Frag} {a : Addr} (h : tup0B K a = true) (H : Hp) : SqT K H a [] := by
  unfold tup0B at h
  cases q : K.lookup a with
  | none =>
    rw [q] at h
    cases h
  | some o =>
    obtain ⟨oc, od, dt, osl⟩ := o
    rw [q] at h
    cases oc with
    | type c =>
      cases dt with
      | seq its n =>
        obtain ⟨h1, h2⟩ := He.ba (show (decide (c = "tuple") && decide (its.size = 0)) = true from h)
        have e : its.size = 0 := of_decide_eq_true h2
        refine .inr ⟨_, its, n, q, congrArg Value.type (of_decide_eq_true h1), rfl, by rw [e]; exact Nat.zero_le _, ?_⟩
        rw [Array.eq_empty_of_size_eq_zero e]
        exact .nil
      | _ => cases h
    | _ => cases dt <;> cases h
end UO

namespace UO
open PySem L2
/-! ### two classes, two rules -/
structure PairX (K : PySem.W.Frag) (C D : Addr) : Prop where
  kit : PySem.W.kitOne K (.ref C) (.ref D) = some false
  fst : PySem.W.notFirst K C (.ref D) = true
def pairB (x y : Str) (K : PySem.W.Frag) : Bool := decide (PySem.W.kitOne K (.ref (He.ga K x)) (.ref (He.ga K y)) = some false) && PySem.W.notFirst K (He.ga K x) (.ref (He.ga K y))
theorem pairB_ok {x y : Str} {K : PySem.W.Frag} (h : pairB x y K = true) : PairX K (He.ga K x) (He.ga K y) := by
  obtain ⟨h1, h2⟩ := He.ba h
  exact ⟨of_decide_eq_true h1, h2⟩
def rOr (r1 r2 : R2) : R2 := fun x y H Q => r1 x y H Q ∨ r2 x y H Q
theorem op_or {X : Cx} {f : Value → Value → Sem Value} {r1 r2 : R2} (h1 : OpR X f r1) (h2 : OpR X f r2) : OpR X f (rOr r1 r2) := by
  intro pins s σ H x y v u Q I rx ry h
  rcases h with h | h
  · exact h1 pins s σ H x y v u Q I rx ry h
  · exact h2 pins s σ H x y v u Q I rx ry h
end UO
/-! own layer: the order of texts, lists of pairs of texts, sets of texts, min(default=), sorted pairs -/
namespace UP
open PySem L2 UW

/-! ### the order of texts -/
def ltS (x y : Str) : Bool := decide (x.cps.toList < y.cps.toList)
def leS (x y : Str) : Bool := !ltS y x
theorem ltS_irr (x : Str) : ltS x x = false := decide_eq_false (List.lt_irrefl _)
theorem ltS_tr {x y z : Str} (h : ltS x y = true) (g : ltS y z = true) : ltS x z = true := decide_eq_true (List.lt_trans (of_decide_eq_true h) (of_decide_eq_true g))
theorem ltS_or {x y : Str} (h : ltS x y = false) (n : x ≠ y) : ltS y x = true := by
  have h1 : ¬ x.cps.toList < y.cps.toList := of_decide_eq_false h
  refine decide_eq_true ?_
  rcases Classical.em (y.cps.toList < x.cps.toList) with h2 | h2
  · exact h2
  · exact absurd (str_ext (List.le_antisymm (List.not_lt.mp h2) (List.not_lt.mp h1))) n
theorem leS_refl (x : Str) : leS x x = true := by
  unfold leS
  rw [ltS_irr]
  rfl
theorem leS_anti {x y : Str} (h : leS x y = true) (g : leS y x = true) : x = y := by
  rcases Classical.em (x = y) with e | e
  · exact e
  · have h1 : ltS y x = false := by
      unfold leS at h
      cases q : ltS y x
      · rfl
      · rw [q] at h
        cases h
    have := ltS_or h1 (fun z => e z.symm)
    unfold leS at g
    rw [this] at g
    cases g
theorem leS_tot (x y : Str) : leS x y = true ∨ leS y x = true := by
  unfold leS
  cases q : ltS y x
  · exact .inl rfl
  · refine .inr ?_
    cases p : ltS x y
    · rfl
    · have := ltS_tr q p
      rw [ltS_irr] at this
      cases this
theorem leS_of_lt {x y : Str} (h : ltS x y = true) : leS x y = true := by
  rcases leS_tot x y with g | g
  · exact g
  · unfold leS at g
    rw [h] at g
    cases g
theorem leS_tr {x y z : Str} (h : leS x y = true) (g : leS y z = true) : leS x z = true := by
  rcases Classical.em (x = y) with e | e
  · rw [e]
    exact g
  rcases Classical.em (y = z) with e' | e'
  · rw [← e']
    exact h
  have a : ltS x y = true := by
    unfold leS at h
    refine ltS_or ?_ (fun q => e q.symm)
    cases q : ltS y x
    · rfl
    · rw [q] at h
      cases h
  have b : ltS y z = true := by
    unfold leS at g
    refine ltS_or ?_ (fun q => e' q.symm)
    cases q : ltS z y
    · rfl
    · rw [q] at g
      cases g
  exact leS_of_lt (ltS_tr a b)
theorem rising_pw : ∀ {p : Str} {xs : List Str}, PyProof.Rows.risingS p xs = true → (p :: xs).Pairwise fun x y => leS x y = true
  | p, [], _ => List.pairwise_singleton ..
  | p, x :: xs, h => by
    unfold PyProof.Rows.risingS at h
    obtain ⟨h1, h2⟩ := Bool.and_eq_true_iff.mp h
    have ih := rising_pw h2
    have hpx : leS p x = true := by
      unfold leS ltS
      rw [← PyProof.Rows.ltCps_eq]
      exact h1
    refine List.pairwise_cons.mpr ⟨fun y hy => ?_, ih⟩
    rcases List.mem_cons.mp hy with e | hy
    · rw [e]
      exact hpx
    · exact leS_tr hpx ((List.pairwise_cons.mp ih).1 y hy)
theorem sorted_pw {xs : List Str} (h : PyProof.Rows.sortedS xs = true) : xs.Pairwise fun x y => leS x y = true := by
  cases xs with
  | nil => exact List.Pairwise.nil
  | cons x xs => exact rising_pw h
/-- two risings of one bag are one -/
theorem pw_uniq {α : Type} {r : α → α → Prop} (an : ∀ x y, r x y → r y x → x = y) : ∀ {xs ys : List α}, xs.Perm ys → xs.Pairwise r → ys.Pairwise r → xs = ys
  | [], ys, p, _, _ => (List.Perm.eq_nil p.symm).symm
  | x :: xs, [], p, _, _ => absurd p.length_eq (by simp)
  | x :: xs, y :: ys, p, h, g => by
    have e : x = y := by
      rcases List.mem_cons.mp (p.mem_iff.mp (List.mem_cons_self (a := x) (l := xs))) with e | hx
      · exact e
      · rcases List.mem_cons.mp (p.mem_iff.mpr (List.mem_cons_self (a := y) (l := ys))) with e | hy
        · exact e.symm
        · exact an _ _ ((List.pairwise_cons.mp h).1 y hy) ((List.pairwise_cons.mp g).1 x hx)
    subst e
    rw [pw_uniq an p.cons_inv (List.pairwise_cons.mp h).2 (List.pairwise_cons.mp g).2]
/-- sorted(texts) -/
def srt (xs : List Str) : List Str := xs.mergeSort leS
theorem srt_perm (xs : List Str) : (srt xs).Perm xs := List.mergeSort_perm ..
theorem srt_pw (xs : List Str) : (srt xs).Pairwise fun x y => leS x y = true := by
  refine List.pairwise_mergeSort (le := leS) (fun a b c h g => leS_tr h g) (fun a b => ?_) xs
  rcases leS_tot a b with h | h
  · rw [h]
    rfl
  · rw [h, Bool.or_true]
theorem srt_uniq {xs ys : List Str} (p : ys.Perm xs) (h : ys.Pairwise fun x y => leS x y = true) : ys = srt xs :=
  pw_uniq (fun _ _ a b => leS_anti a b) (p.trans (srt_perm xs).symm) h (srt_pw xs)
theorem srt_of {xs ys : List Str} (p : ys.Perm xs) (h : PyProof.Rows.sortedS ys = true) : ys = srt xs := srt_uniq p (sorted_pw h)
theorem srt_mem {x : Str} {xs : List Str} : x ∈ srt xs ↔ x ∈ xs := (srt_perm xs).mem_iff
theorem srt_len (xs : List Str) : (srt xs).length = xs.length := (srt_perm xs).length_eq
theorem srt_nodup {xs : List Str} (h : xs.Nodup) : (srt xs).Nodup := (srt_perm xs).nodup_iff.mpr h
/-- the least one of which p is true -/
def Least (p : Str → Prop) : Option Str → Prop
  | none => ∀ x, ¬ p x
  | some m => p m ∧ ∀ x, p x → leS m x = true
theorem Least.uniq {p : Str → Prop} {a b : Option Str} (h : Least p a) (g : Least p b) : a = b := by
  cases a with
  | none =>
    cases b with
    | none => rfl
    | some y => exact absurd g.1 (h y)
  | some x =>
    cases b with
    | none => exact absurd h.1 (g x)
    | some y => rw [leS_anti (h.2 y g.1) (g.2 x h.1)]
theorem Least.iff {p q : Str → Prop} {a : Option Str} (h : Least p a) (e : ∀ x, p x ↔ q x) : Least q a := by
  cases a with
  | none => exact fun x z => h x ((e x).mpr z)
  | some m => exact ⟨(e m).mp h.1, fun x z => h.2 x ((e x).mpr z)⟩

/-! ### lists of pairs of texts -/
inductive Prs (K : PySem.W.Frag) (H : Hp) : List V → List (Str × Str) → Prop
  | nil : Prs K H [] []
  | cons {t : Addr} {d : Str × Str} {xs : List V} {ds : List (Str × Str)} : SqT K H t [.str d.1, .str d.2] → Prs K H xs ds → Prs K H (.ref t :: xs) (d :: ds)
section
variable {K : PySem.W.Frag} {H H' : Hp} {xs ys : List V} {ds es : List (Str × Str)}
theorem Prs.same (h : Prs K H xs ds) (s : Same H H') : Prs K H' xs ds := by
  induction h with
  | nil => exact .nil
  | cons a _ ih => exact .cons (tup_same s a) ih
theorem Prs.keep {q : Addr} (h : Prs K H xs ds) (k : Kp q H H') (n : NotTp H q) : Prs K H' xs ds := by
  induction h with
  | nil => exact .nil
  | cons a _ ih => exact .cons (k.tup n a) ih
theorem Prs.len (h : Prs K H xs ds) : xs.length = ds.length := by
  induction h with
  | nil => rfl
  | cons _ _ ih => rw [List.length_cons, List.length_cons, ih]
theorem Prs.app (h : Prs K H xs ds) (g : Prs K H ys es) : Prs K H (xs ++ ys) (ds ++ es) := by
  induction h with
  | nil => exact g
  | cons a _ ih => exact .cons a ih
theorem Prs.one {t : Addr} {d : Str × Str} (a : SqT K H t [.str d.1, .str d.2]) : Prs K H [.ref t] [d] := .cons a .nil
theorem Prs.rev (h : Prs K H xs ds) : Prs K H xs.reverse ds.reverse := by
  induction h with
  | nil => exact .nil
  | cons a _ ih =>
    rw [List.reverse_cons, List.reverse_cons]
    exact ih.app (.one a)
theorem Prs.get {i : Nat} {x : V} (h : Prs K H xs ds) (e : xs[i]? = some x) : ∃ t d, x = .ref t ∧ ds[i]? = some d ∧ SqT K H t [.str d.1, .str d.2] := by
  induction h generalizing i with
  | nil => simp at e
  | @cons t d _ _ a _ ih =>
    cases i with
    | zero =>
      cases e
      exact ⟨t, d, rfl, rfl, a⟩
    | succ i => exact ih e
def enc2 (d : Str × Str) : PyData := .tuple [.str d.1, .str d.2]
def Ok2 (d : Str × Str) : Prop := PyData.strOk d.1 = true ∧ PyData.strOk d.2 = true
theorem Prs.dp (h : Prs K H xs ds) : DpAll K H xs (ds.map enc2) := by
  induction h with
  | nil => exact .nil
  | cons a _ ih => exact .cons (.tup a (.cons (.str _) (.cons (.str _) .nil))) ih
theorem lay2 {d : Str × Str} (h : Ok2 d) : PyData.canLay0 (enc2 d) = true ∧ PyData.depth (enc2 d) = 1 := by
  unfold enc2
  refine ⟨?_, ?_⟩
  · simp only [PyData.canLay0, PyData.canLayAll0, h.1, h.2, Bool.and_self]
  · simp only [PyData.depth, PyData.depthAll, Nat.max_self]
theorem layAll2 : ∀ {ds : List (Str × Str)}, (∀ d ∈ ds, Ok2 d) → PyData.canLayAll0 (ds.map enc2) = true ∧ PyData.depthAll (ds.map enc2) ≤ 1
  | [], _ => ⟨by simp only [List.map_nil, PyData.canLayAll0], by simp only [List.map_nil, PyData.depthAll]; decide⟩
  | d :: ds, h => by
    obtain ⟨c, e⟩ := layAll2 fun y hy => h y (List.mem_cons_of_mem _ hy)
    obtain ⟨c1, e1⟩ := lay2 (h d (List.mem_cons_self ..))
    rw [List.map_cons]
    refine ⟨by simp only [PyData.canLayAll0, c1, c, Bool.and_self], ?_⟩
    simp only [PyData.depthAll, e1]
    omega
theorem shaped2 {d : Str × Str} (h : Ok2 d) : SeqAt.shaped (enc2 d) = true := by
  obtain ⟨a, b⟩ := lay2 h
  refine Bool.and_eq_true_iff.mpr ⟨a, decide_eq_true ?_⟩
  rw [b]
  decide
theorem shapedL2 {ds : List (Str × Str)} (h : ∀ d ∈ ds, Ok2 d) : SeqAt.shaped (.list (ds.map enc2)) = true := by
  obtain ⟨a, b⟩ := layAll2 h
  refine Bool.and_eq_true_iff.mpr ⟨?_, decide_eq_true ?_⟩
  · simp only [PyData.canLay0]
    exact a
  · simp only [PyData.depth]
    omega
theorem eqv2 (d e : Str × Str) : PyData.eqv (enc2 d) (enc2 e) = decide (d = e) := by
  obtain ⟨a, b⟩ := d
  obtain ⟨c, f⟩ := e
  have q := eqvAll_strs [a, b] [c, f]
  unfold enc2
  rw [show ∀ xs ys, PyData.eqv (.tuple xs) (.tuple ys) = PyData.eqvAll xs ys from fun xs ys => by simp only [PyData.eqv]]
  refine q.trans (decide_eq_decide.mpr ⟨fun z => ?_, fun z => ?_⟩)
  · injection z with z1 z2
    injection z2 with z2 _
    rw [z1, z2]
  · injection z with z1 z2
    rw [z1, z2]
theorem any2 (d : Str × Str) : ∀ ds : List (Str × Str), ((ds.map enc2).any fun z => PyData.eqv z (enc2 d)) = decide (d ∈ ds)
  | [] => rfl
  | e :: ds => by
    rw [List.map_cons, List.any_cons, any2 d ds, eqv2]
    by_cases h : e = d
    · rw [decide_eq_true h, Bool.true_or, decide_eq_true (by rw [h]; exact List.mem_cons_self ..)]
    · rw [decide_eq_false h, Bool.false_or]
      exact decide_eq_decide.mpr ⟨fun z => List.mem_cons_of_mem _ z, fun z => (List.mem_cons.mp z).resolve_left fun q => h q.symm⟩
theorem eqvAll2 : ∀ ds es : List (Str × Str), PyData.eqvAll (ds.map enc2) (es.map enc2) = decide (ds = es)
  | [], [] => by simp only [List.map_nil, PyData.eqvAll]; rfl
  | [], y :: ys => by simp only [List.map_nil, List.map_cons, PyData.eqvAll]; rfl
  | x :: xs, [] => by simp only [List.map_nil, List.map_cons, PyData.eqvAll]; rfl
  | x :: xs, y :: ys => by
    rw [List.map_cons, List.map_cons, show ∀ a b as bs, PyData.eqvAll (a :: as) (b :: bs) = (PyData.eqv a b && PyData.eqvAll as bs) from fun a b as bs => by simp only [PyData.eqvAll], eqvAll2 xs ys, eqv2]
    by_cases h : x = y
    · rw [decide_eq_true h, Bool.true_and]
      exact decide_eq_decide.mpr ⟨fun e => by rw [h, e], fun e => by injection e⟩
    · rw [decide_eq_false h, Bool.false_and]
      exact (decide_eq_false fun e => h (by injection e)).symm
theorem eqvL2 (ds es : List (Str × Str)) : PyData.eqv (.list (ds.map enc2)) (.list (es.map enc2)) = decide (ds = es) := by
  rw [show ∀ xs ys, PyData.eqv (.list xs) (.list ys) = PyData.eqvAll xs ys from fun xs ys => by simp only [PyData.eqv]]
  exact eqvAll2 ds es
theorem inD2 {t a : Addr} {d : Str × Str} {Q : VK} (ht : SqT K H t [.str d.1, .str d.2]) (ha : SqL K H a xs) (hx : Prs K H xs ds) (k : Ok2 d) (ks : ∀ d ∈ ds, Ok2 d) (q : Q (.bl (decide (d ∈ ds))) H) : rInD K (.ref t) (.ref a) H Q := by
  refine ⟨enc2 d, ds.map enc2, .tup ht (.cons (.str _) (.cons (.str _) .nil)), .lst ha hx.dp, shaped2 k, shapedL2 ks, ?_⟩
  rw [any2]
  exact q
theorem notInD2 {t a : Addr} {d : Str × Str} {Q : VK} (ht : SqT K H t [.str d.1, .str d.2]) (ha : SqL K H a xs) (hx : Prs K H xs ds) (k : Ok2 d) (ks : ∀ d ∈ ds, Ok2 d) (q : Q (.bl (!decide (d ∈ ds))) H) : rNotInD K (.ref t) (.ref a) H Q := by
  refine ⟨enc2 d, ds.map enc2, .tup ht (.cons (.str _) (.cons (.str _) .nil)), .lst ha hx.dp, shaped2 k, shapedL2 ks, ?_⟩
  rw [any2]
  exact q
theorem neD2 {a b : Addr} {Q : VK} (ha : SqL K H a xs) (hx : Prs K H xs ds) (hb : SqL K H b ys) (hy : Prs K H ys es) (k : ∀ d ∈ ds, Ok2 d) (k' : ∀ d ∈ es, Ok2 d) (q : Q (.bl (!decide (ds = es))) H) : rNeD K (.ref a) (.ref b) H Q := by
  refine ⟨_, _, .lst ha hx.dp, .lst hb hy.dp, shapedL2 k, shapedL2 k', ?_⟩
  rw [eqvL2]
  exact q
theorem eqD2 {a b : Addr} {Q : VK} (ha : SqL K H a xs) (hx : Prs K H xs ds) (hb : SqL K H b ys) (hy : Prs K H ys es) (k : ∀ d ∈ ds, Ok2 d) (k' : ∀ d ∈ es, Ok2 d) (q : Q (.bl (decide (ds = es))) H) : rEqD K (.ref a) (.ref b) H Q := by
  refine ⟨_, _, .lst ha hx.dp, .lst hb hy.dp, shapedL2 k, shapedL2 k', ?_⟩
  rw [eqvL2]
  exact q
end
end UP

namespace UP
open PySem PySem.Spec PyProof.Rows L2 UW
/-! ### min(texts, default=None) -/
def rMinS (K : PySem.W.Frag) : List V → List V → Hp → VK → Prop := fun vs zs H Q => ∃ (a : Addr) (xs : List Str), vs = [.ref a] ∧ zs = [.non] ∧ SqL K H a (xs.map V.str) ∧ ∀ o, Least (fun x => x ∈ xs) o → Q (optV o) H
theorem minOf_mem (x : Str) : ∀ xs : List Str, PySem.W.minOf x xs ∈ x :: xs
  | [] => List.mem_cons_self ..
  | y :: ys => by
    show PySem.W.minOf (if PySem.W.DatumOrd.lt y x = true then y else x) ys ∈ x :: y :: ys
    have := minOf_mem (if PySem.W.DatumOrd.lt y x = true then y else x) ys
    rcases List.mem_cons.mp this with e | e
    · rw [e]
      split
      · exact List.mem_cons_of_mem _ (List.mem_cons_self ..)
      · exact List.mem_cons_self ..
    · exact List.mem_cons_of_mem _ (List.mem_cons_of_mem _ e)
theorem minOf_le (x : Str) : ∀ xs : List Str, ∀ z ∈ x :: xs, leS (PySem.W.minOf x xs) z = true
  | [], z, hz => by
    rw [List.mem_singleton.mp hz]
    exact leS_refl _
  | y :: ys, z, hz => by
    show leS (PySem.W.minOf (if PySem.W.DatumOrd.lt y x = true then y else x) ys) z = true
    have ih := minOf_le (if PySem.W.DatumOrd.lt y x = true then y else x) ys
    have h0 := ih _ (List.mem_cons_self ..)
    have hx : leS (if PySem.W.DatumOrd.lt y x = true then y else x) x = true ∧ leS (if PySem.W.DatumOrd.lt y x = true then y else x) y = true := by
      rcases Classical.em (PySem.W.DatumOrd.lt y x = true) with c | c
      · rw [if_pos c]
        exact ⟨leS_of_lt c, leS_refl _⟩
      · rw [if_neg c]
        refine ⟨leS_refl _, ?_⟩
        unfold leS
        rw [show ltS y x = false from Bool.eq_false_iff.mpr c]
        rfl
    rcases List.mem_cons.mp hz with e | hz
    · rw [e]
      exact leS_tr h0 hx.1
    · rcases List.mem_cons.mp hz with e | hz
      · rw [e]
        exact leS_tr h0 hx.2
      · exact ih z (List.mem_cons_of_mem _ hz)
theorem vals_get : ∀ {vs : List V} {us : List Value}, Vals vs us → ∀ {i : Nat} {v : Value}, us[i]? = some v → ∃ x, vs[i]? = some x ∧ RelV x v
  | _, _, .nil, i, v, h => by simp at h
  | _, _, .cons r t, 0, v, h => by
    cases h
    exact ⟨_, rfl, r⟩
  | _, _, .cons r t, i + 1, v, h => vals_get t (i := i) h
theorem cr_minS {X : Cx} (hc : X.calm = true) (hu : X.A.units + 64 < cLine) : CallRK X (.builtin "min") [Str.ofString "default"] (rMinS X.K) := by
  intro pins s σ H vs zs us ws Q I r rz h
  obtain ⟨a, xs, rfl, rfl, hs, q⟩ := h
  obtain ⟨its, rv, hl, _⟩ := I.list hs
  rw [Vals.ref1 r]
  obtain ⟨w1, rfl, rfl⟩ := vals1 rz
  obtain ⟨as, hr⟩ := Dp.readsAll I (xs.map PyData.str) _ _ (dpAll_strs (K := X.K) (H := H) xs) rv
  have hold : PySem.W.HoldAll s.heap its.toArray.toList xs := ⟨as, hr⟩
  refine PySem.W.min_list_datum_default (I.ok.hd hc) hl.isList hold (by show X.A.units + 1 + _ < cLine; have : PySem.W.Datum.depth Str = 0 := rfl; omega) (fun e h' tk hk => ⟨.non, H, I.kept hk, rfl, ?_⟩) fun y ys i v h' tk e hi hv hk => ?_
  · subst e
    exact q none (fun x hx => nomatch hx)
  · subst e
    obtain ⟨bs, rd⟩ := hv
    have hi' : its[i]? = some v := by rw [← List.getElem?_toArray]; exact hi
    obtain ⟨x, hx, rx⟩ := vals_get rv hi'
    obtain ⟨w, hw, rfl⟩ := map_str_get hx
    obtain ⟨t, rfl⟩ := rx
    have ew : w = PySem.W.minOf y ys := by
      change PySem.Reads h' (.str w t) (.str (PySem.W.minOf y ys)) bs at rd
      cases rd
      rfl
    refine ⟨.str w, H, I.kept hk, ⟨t, rfl⟩, ?_⟩
    rw [ew]
    exact q (some _) ⟨minOf_mem y ys, fun z hz => minOf_le y ys z hz⟩
end UP

namespace UP
open PySem L2
theorem take_snoc {α : Type} {ds : List α} {i : Nat} {d : α} (h : ds[i]? = some d) : ds.take (i + 1) = ds.take i ++ [d] := by
  rw [List.take_add_one, h]
  rfl
theorem un65 {k : Nat} {A : Around} (r : Room k A) : A.units + 65 < cLine := by
  have := r.un
  omega
end UP

namespace UP
open PySem PySem.Spec PyProof.Rows L2
theorem binds_all {K : PySem.W.Frag} {fd : FuncData} {ps : List Str} (h : ∃ ds, Vals [] ds ∧ Binds K fd ps ds) : Binds K fd ps [] := by
  obtain ⟨ds, r, b⟩ := h
  cases r
  exact b
section
variable {X : Cx}
/-- y = {k: v for ..}, y a plain local -/
theorem ps_setDc {i : Nat} {y : Str} {py pos spos : Pos} {kx vx tg iter : Expr} {ifs : List Expr} {scope : Scope} {own : List (Str × Nat)} {wi : TI} {g : TG} {tt : TT} {tk tv : TE}
    (hc : X.calm = true) (hN : X.N.Nodup) (hy : X.N[i]? = some y) (hyl : X.env.scope.names.lookup y = some .local) (hsw : swapsWith (.DictComp kx vx [⟨tg, iter, ifs, 0⟩] scope pos) (some (.Name y py)) spos.line X.env = pure true)
    (hi : PI X tg iter wi) (ok : BlkOk X.N X.env.scope scope own)
    (hg : ∀ s H C cl fp, PG (X.blk s H scope (compEnvC scope cl C X.env) fp) tg g) (ht : ∀ s H C cl fp, PTs (X.blk s H scope (compEnvC scope cl C X.env) fp) ifs tt)
    (hk : ∀ s H C cl fp, PE (X.blk s H scope (compEnvC scope cl C X.env) fp) kx tk) (hv : ∀ s H C cl fp, PE (X.blk s H scope (compEnvC scope cl C X.env) fp) vx tv)
    (hs : ∀ x, foldedSetIterable iter X.env x = pure x := by intro _; rfl) :
    PS X (.Assign [.Name y py] (.DictComp kx vx [⟨tg, iter, ifs, 0⟩] scope pos) spos) (tAsg (tDc wi g tt tk tv (own.map (·.2))) (gName i)) := by
  refine ⟨fun pins s σ H D I h => ?_⟩
  rw [exec_Assign_Name_used _ _ _ _ hsw]
  refine wpAny_bind (wpAny_standAt (wpAny_bind (wpAny_bind (m := comprehension _ _ _ _ newDict false (eval iter X.env) (some (assign (.Name y py) X.env))) (thn ?_ fun _ z q => wpAny_pure (wpAny_pure q)))))
  refine dc_core (Qf := fun _ z => SP X pins D .next z) hc hN I hi ok hg ht hk hv hs (Q := fun x H1 => gName i x σ H1 D.nx) h fun L C z m H2 I2 q ns fp => ?_
  show wpAny _ _ (assign (.Name y py) X.env (.ref L)) _ _ _
  refine wpAny_assign_Name (store_ok2 (v := V.ref L) I2 hN hy (.inl hyl) rfl (fun z2 J ⟨a, sb, ha⟩ => ?_) (.inr hyl))
  obtain ⟨f0, f1, f2, f3, f4, f5⟩ := fp
  have ne : C ≠ a := ha.elim (fun e => e ▸ f1) fun e q => f4 y a e q.symm
  exact ⟨m, ns.sameBut sb ne, fun h3 sb3 => ⟨_, H2, J.turned (t' := z2.toks) (fun b o hb e => (sb3.2 b hb).trans e) f0 f1 f3 f4 f5, q⟩⟩
theorem sw_dict {kx vx : Expr} {gs : List Comprehension} {scope : Scope} {pos py : Pos} {y : Str} {l : Nat} {env : Env} (hk : env.scope.kind = .function) (hy : env.scope.names.lookup y = some .local) (hl : (py.line == pos.line) = true)
    (ha : (scope.names.any fun (n, k) => n == y && (k == .local || k == .cell)) = false) : swapsWith (.DictComp kx vx gs scope pos) (some (.Name y py)) l env = pure true := by
  have e1 : env.kindOf y = some .local := hy
  have e2 : env.blockKind = .function := by
    unfold Env.blockKind
    rw [hk]
    rfl
  unfold swapsWith
  simp only [e2, e1, ha, Expr.pos, hl]
  rfl
end
end UP

namespace UP
open PySem L2
theorem pe_fldK {X : Cx} {K : PySem.W.Frag} {e : Expr} {f : Str} {pos : Pos} {ta : TE} (hK : X.K = K) (he : PE X e ta) (hb : attributeBase e f X.env (eval e X.env) = eval e X.env) : PE X (.Attribute e f pos) (tFld K ta f) := by
  subst hK
  exact pe_fld he hb
end UP

namespace UP
open PySem L2
theorem pi_listK {X : Cx} {K : PySem.W.Frag} {tg e : Expr} {te : TE} (hK : X.K = K) (he : PE X e te) : PI X tg e (iList K te) := by
  subst hK
  exact pi_list he
theorem pi_tupK {X : Cx} {K : PySem.W.Frag} {tg e : Expr} {te : TE} (hK : X.K = K) (he : PE X e te) : PI X tg e (iTup K te) := by
  subst hK
  exact pi_tup he
end UP

namespace UP
open PySem L2
/-- a walk by one rule or by another -/
def iOr (a b : TI) : TI := fun σ H R => a σ H R ∨ b σ H R
theorem pi_or {X : Cx} {tg e : Expr} {a b : TI} (h : PI X tg e a) (g : PI X tg e b) : PI X tg e (iOr a b) :=
  ⟨fun pins s σ H R I q => q.elim (h.run pins s σ H R I) (g.run pins s σ H R I)⟩
end UP
namespace K18
open PySem L2 UW UP
def topS (i : Nat) : Stmt := PySem.Challenge.pw_unitwants_k18_stands_equal.main.body.getD i (.Pass ⟨0, 0, 0, 0⟩)
abbrev s_Stand_init : Stmt := inClass (topS 1) 0
abbrev N_Stand_init : List Str := ["self", "wished", "up", "later", "back"]
theorem sc_Stand_init : FnScope N_Stand_init ["self", "wished", "up", "later", "back"] (defScope s_Stand_init) := ⟨rfl, rfl, rfl, by decide +kernel, rfl, by decide +kernel, by decide +kernel⟩
abbrev s_Stand_eq : Stmt := inClass (topS 1) 1
abbrev N_Stand_eq : List Str := ["self", "other"]
theorem sc_Stand_eq : FnScope N_Stand_eq ["self", "other"] (defScope s_Stand_eq) := ⟨rfl, rfl, rfl, by decide +kernel, rfl, by decide +kernel, by decide +kernel⟩
abbrev s_open_in : Stmt := topS 2
abbrev N_open_in : List Str := ["stand", "name"]
theorem sc_open_in : FnScope N_open_in ["stand"] (defScope s_open_in) := ⟨rfl, rfl, rfl, by decide +kernel, rfl, by decide +kernel, by decide +kernel⟩
abbrev s_law_bag : Stmt := topS 4
abbrev N_law_bag : List Str := ["_law_script", "_law_at", "_law_cell", "_law_far"]
theorem sc_law_bag : FnScope N_law_bag ["_law_script", "_law_at"] (defScope s_law_bag) := ⟨rfl, rfl, rfl, by decide +kernel, rfl, by decide +kernel, by decide +kernel⟩
abbrev s_law_take : Stmt := topS 5
abbrev N_law_take : List Str := ["_law_bag_here", "_law_size", "_law_digit", "_law_primes", "_law_stage", "_law_basis", "_law_found"]
theorem sc_law_take : FnScope N_law_take ["_law_bag_here", "_law_size"] (defScope s_law_take) := ⟨rfl, rfl, rfl, by decide +kernel, rfl, by decide +kernel, by decide +kernel⟩
abbrev s_law_name : Stmt := topS 6
abbrev N_law_name : List Str := ["_law_bag_here", "_law_letters", "_law_size", "_law_spot"]
theorem sc_law_name : FnScope N_law_name ["_law_bag_here"] (defScope s_law_name) := ⟨rfl, rfl, rfl, by decide +kernel, rfl, by decide +kernel, by decide +kernel⟩
abbrev s_law_names : Stmt := topS 7
abbrev N_law_names : List Str := ["_law_bag_here", "_law_size", "_law_found", "_law_spot", "_law_word", "_law_one"]
theorem sc_law_names : FnScope N_law_names ["_law_bag_here", "_law_size"] (defScope s_law_names) := ⟨rfl, rfl, rfl, by decide +kernel, rfl, by decide +kernel, by decide +kernel⟩
abbrev s_law_some : Stmt := topS 8
abbrev N_law_some : List Str := ["_law_bag_here", "_law_pool", "_law_most", "_law_left", "_law_found", "_law_turn"]
theorem sc_law_some : FnScope N_law_some ["_law_bag_here", "_law_pool", "_law_most"] (defScope s_law_some) := ⟨rfl, rfl, rfl, by decide +kernel, rfl, by decide +kernel, by decide +kernel⟩
abbrev s_law_made : Stmt := topS 9
abbrev N_law_made : List Str := ["_law_way", "_law_rows"]
theorem sc_law_made : FnScope N_law_made ["_law_way", "_law_rows"] (defScope s_law_made) := ⟨rfl, rfl, rfl, by decide +kernel, rfl, by decide +kernel, by decide +kernel⟩
abbrev s_law_right : Stmt := topS 10
abbrev N_law_right : List Str := ["_law_one", "_law_rows", "_law_due", "_law_turn", "_law_told", "_law_word"]
theorem sc_law_right : FnScope N_law_right ["_law_one", "_law_rows"] (defScope s_law_right) := ⟨rfl, rfl, rfl, by decide +kernel, rfl, by decide +kernel, by decide +kernel⟩
abbrev s_law : Stmt := topS 11
abbrev N_law : List Str := ["_law_script", "_law_k", "_law_bag_here", "_law_words", "_law_rows", "_law_one", "_law_other", "_law_at", "_law_bent", "_law_last", "_law_odd", "_law_turn"]
theorem sc_law : FnScope N_law ["_law_script"] (defScope s_law) := ⟨rfl, rfl, rfl, by decide +kernel, rfl, by decide +kernel, by decide +kernel⟩
structure Txt (K : PySem.W.Frag) (mg : Str → Option Value) where
  d_Stand_init : FuncData
  F_Stand_init : FunD K "__init__" "Stand.__init__" (defArgs s_Stand_init) (defBody s_Stand_init) (defScope s_Stand_init) [] [("wished", V.ref (UO.kwAdr K ("Stand", some "__init__") "wished")), ("up", V.ref (UO.kwAdr K ("Stand", some "__init__") "up")), ("later", V.ref (UO.kwAdr K ("Stand", some "__init__") "later")), ("back", V.ref (UO.kwAdr K ("Stand", some "__init__") "back"))] (He.fAd K ("Stand", some "__init__")) d_Stand_init
  d_Stand_eq : FuncData
  F_Stand_eq : FunD K "__eq__" "Stand.__eq__" (defArgs s_Stand_eq) (defBody s_Stand_eq) (defScope s_Stand_eq) [] [] (He.fAd K ("Stand", some "__eq__")) d_Stand_eq
  b_Stand_eq : Binds K d_Stand_eq ["self", "other"] []
  me_Stand_eq : Meth K (He.ga K "Stand") "__eq__" (He.fAd K ("Stand", some "__eq__"))
  d_open_in : FuncData
  F_open_in : FunD K "open_in" "open_in" (defArgs s_open_in) (defBody s_open_in) (defScope s_open_in) [] [] (He.fAd K ("open_in", none)) d_open_in
  m_open_in : mg "open_in" = some (.ref (He.ga K "open_in"))
  b_open_in : Binds K d_open_in ["stand"] []
  d_law_bag : FuncData
  F_law_bag : FunD K "_law_bag" "_law_bag" (defArgs s_law_bag) (defBody s_law_bag) (defScope s_law_bag) [] [] (He.fAd K ("_law_bag", none)) d_law_bag
  m_law_bag : mg "_law_bag" = some (.ref (He.ga K "_law_bag"))
  b_law_bag : Binds K d_law_bag ["_law_script", "_law_at"] []
  d_law_take : FuncData
  F_law_take : FunD K "_law_take" "_law_take" (defArgs s_law_take) (defBody s_law_take) (defScope s_law_take) [] [] (He.fAd K ("_law_take", none)) d_law_take
  m_law_take : mg "_law_take" = some (.ref (He.ga K "_law_take"))
  b_law_take : Binds K d_law_take ["_law_bag_here", "_law_size"] []
  d_law_name : FuncData
  F_law_name : FunD K "_law_name" "_law_name" (defArgs s_law_name) (defBody s_law_name) (defScope s_law_name) [] [] (He.fAd K ("_law_name", none)) d_law_name
  m_law_name : mg "_law_name" = some (.ref (He.ga K "_law_name"))
  b_law_name : Binds K d_law_name ["_law_bag_here"] []
  d_law_names : FuncData
  F_law_names : FunD K "_law_names" "_law_names" (defArgs s_law_names) (defBody s_law_names) (defScope s_law_names) [] [] (He.fAd K ("_law_names", none)) d_law_names
  m_law_names : mg "_law_names" = some (.ref (He.ga K "_law_names"))
  b_law_names : Binds K d_law_names ["_law_bag_here", "_law_size"] []
  d_law_some : FuncData
  F_law_some : FunD K "_law_some" "_law_some" (defArgs s_law_some) (defBody s_law_some) (defScope s_law_some) [] [] (He.fAd K ("_law_some", none)) d_law_some
  m_law_some : mg "_law_some" = some (.ref (He.ga K "_law_some"))
  b_law_some : Binds K d_law_some ["_law_bag_here", "_law_pool", "_law_most"] []
  d_law_made : FuncData
  F_law_made : FunD K "_law_made" "_law_made" (defArgs s_law_made) (defBody s_law_made) (defScope s_law_made) [] [] (He.fAd K ("_law_made", none)) d_law_made
  m_law_made : mg "_law_made" = some (.ref (He.ga K "_law_made"))
  b_law_made : Binds K d_law_made ["_law_way", "_law_rows"] []
  d_law_right : FuncData
  F_law_right : FunD K "_law_right" "_law_right" (defArgs s_law_right) (defBody s_law_right) (defScope s_law_right) [] [] (He.fAd K ("_law_right", none)) d_law_right
  m_law_right : mg "_law_right" = some (.ref (He.ga K "_law_right"))
  b_law_right : Binds K d_law_right ["_law_one", "_law_rows"] []
  d_law : FuncData
  F_law : FunD K "law" "law" (defArgs s_law) (defBody s_law) (defScope s_law) [] [] (He.fAd K ("law", none)) d_law
  m_law : mg "law" = some (.ref (He.ga K "law"))
  b_law : Binds K d_law ["_law_script"] []
  m_Stand : mg "Stand" = some (.ref (He.ga K "Stand"))
  cl_Stand : Cls K (He.ga K "Stand")
  mk_Stand : Mk K (He.ga K "Stand") (He.fAd K ("Stand", some "__init__"))
  na_Stand_wished : NoAttr K (He.ga K "Stand") "wished"
  na_Stand_up : NoAttr K (He.ga K "Stand") "up"
  na_Stand_later : NoAttr K (He.ga K "Stand") "later"
  na_Stand_back : NoAttr K (He.ga K "Stand") "back"
  e0_Stand_init_wished : ∀ H, SqT K H (UO.kwAdr K ("Stand", some "__init__") "wished") []
  e0_Stand_init_up : ∀ H, SqT K H (UO.kwAdr K ("Stand", some "__init__") "up") []
  e0_Stand_init_later : ∀ H, SqT K H (UO.kwAdr K ("Stand", some "__init__") "later") []
  e0_Stand_init_back : ∀ H, SqT K H (UO.kwAdr K ("Stand", some "__init__") "back") []
  ix_Stand : UO.InsX K (He.ga K "Stand")
  n_isinstance : mg "isinstance" = none
  n_abs : mg "abs" = none
  n_len : mg "len" = none
  n_int : mg "int" = none
  n_range : mg "range" = none
  n_list : mg "list" = none
  n_tuple : mg "tuple" = none
  n_max : mg "max" = none
  n_min : mg "min" = none
  n_sorted : mg "sorted" = none
  kb_Stand_init_1_back_later_up_wished : ∃ gg, KBn K d_Stand_init ["self", "wished", "up", "later", "back"] 1 ["back", "later", "up", "wished"] gg (fun us ws => us ++ (ws.drop 3).take 1 ++ (ws.drop 2).take 1 ++ (ws.drop 1).take 1 ++ (ws.drop 0).take 1)
  kb_Stand_init_1_wished_up_later_back : ∃ gg, KBn K d_Stand_init ["self", "wished", "up", "later", "back"] 1 ["wished", "up", "later", "back"] gg (fun us ws => us ++ (ws.drop 0).take 1 ++ (ws.drop 1).take 1 ++ (ws.drop 2).take 1 ++ (ws.drop 3).take 1)
  kb_Stand_init_1_up_wished : ∃ gg, KBn K d_Stand_init ["self", "wished", "up", "later", "back"] 1 ["up", "wished"] gg (fun us ws => us ++ (ws.drop 1).take 1 ++ (ws.drop 0).take 1 ++ ([V.ref (UO.kwAdr K ("Stand", some "__init__") "later"), V.ref (UO.kwAdr K ("Stand", some "__init__") "back")].drop 0).take 1 ++ ([V.ref (UO.kwAdr K ("Stand", some "__init__") "later"), V.ref (UO.kwAdr K ("Stand", some "__init__") "back")].drop 1).take 1)
  kb_Stand_init_1_back_later_up : ∃ gg, KBn K d_Stand_init ["self", "wished", "up", "later", "back"] 1 ["back", "later", "up"] gg (fun us ws => us ++ ([V.ref (UO.kwAdr K ("Stand", some "__init__") "wished")].drop 0).take 1 ++ (ws.drop 2).take 1 ++ (ws.drop 1).take 1 ++ (ws.drop 0).take 1)
  kb_open_in_0_stand : ∃ gg, KBn K d_open_in ["stand"] 0 ["stand"] gg (fun us ws => us ++ (ws.drop 0).take 1)
  kb_Stand_init_1_none : ∃ gg, KBn K d_Stand_init ["self", "wished", "up", "later", "back"] 1 [] gg (fun us ws => us ++ ([V.ref (UO.kwAdr K ("Stand", some "__init__") "wished"), V.ref (UO.kwAdr K ("Stand", some "__init__") "up"), V.ref (UO.kwAdr K ("Stand", some "__init__") "later"), V.ref (UO.kwAdr K ("Stand", some "__init__") "back")].drop 0).take 1 ++ ([V.ref (UO.kwAdr K ("Stand", some "__init__") "wished"), V.ref (UO.kwAdr K ("Stand", some "__init__") "up"), V.ref (UO.kwAdr K ("Stand", some "__init__") "later"), V.ref (UO.kwAdr K ("Stand", some "__init__") "back")].drop 1).take 1 ++ ([V.ref (UO.kwAdr K ("Stand", some "__init__") "wished"), V.ref (UO.kwAdr K ("Stand", some "__init__") "up"), V.ref (UO.kwAdr K ("Stand", some "__init__") "later"), V.ref (UO.kwAdr K ("Stand", some "__init__") "back")].drop 2).take 1 ++ ([V.ref (UO.kwAdr K ("Stand", some "__init__") "wished"), V.ref (UO.kwAdr K ("Stand", some "__init__") "up"), V.ref (UO.kwAdr K ("Stand", some "__init__") "later"), V.ref (UO.kwAdr K ("Stand", some "__init__") "back")].drop 3).take 1)
section
variable {P : Program} {w : World} {K : PySem.W.Frag} {mg : Str → Option Value} {base : Heap}
/-! ### the bag and a draw -/
def sp_law_bag (K : PySem.W.Frag) : Sp := fun vs H Q _ => ∃ (a : Addr) (ns : List Int) (k : Nat), vs = [.ref a, .int k] ∧ SqL K H a (ns.map V.int) ∧ k ≤ 1000 ∧
  ∀ p H', H p = none → Same H H' → Bag 0 H' p → Q (.ref p) H'
theorem ok_law_bag (T : Txt K mg) : FnOk P w K mg base CX0 1 (He.fAd K ("_law_bag", none)) T.d_law_bag ["_law_script", "_law_at"] (sp_law_bag K) := by
  refine T.F_law_bag.ok sc_law_bag (fun vs H Q E h => ?_) (fun cdv A outer s H vs Q E hr h => ?_)
  · obtain ⟨a, ns, k, rfl, _⟩ := h
    rfl
  · obtain ⟨a, ns, k, rfl, hS, hk, q⟩ := h
    refine ⟨_, PSs.nox (pss_cons (ps_set (i := 2) sc_law_bag.nd rfl (Or.inl rfl) (pe_op op_add (pe_op op_add (pe_op op_mul (pe_op op_mul pe_int (pv 1)) (pv 1)) (pe_op op_mul pe_int (pv 1))) pe_int))
      (pss_mid (ps_if (pt_cmpR op_lt (pv 1) (pe_callB (id := "len")  call_len_seq (by rfl) T.n_len (by decide +kernel) (pa_cons (pv 0) pa_nil)) (nomark _))
      (pss_one (ps_set (i := 2) sc_law_bag.nd rfl (Or.inl rfl) (pe_ix ix_list (pv 0) (pv 1) (fun _ _ => rfl))))
      pss_nil)
      (pss_cons (ps_set (i := 3) sc_law_bag.nd rfl (Or.inl rfl) (pe_callB (id := "abs")  call_abs (by rfl) T.n_abs (by decide +kernel) (pa_cons (pv 2) pa_nil)))
      (pss_one (ps_ret (pe_lst (pa_cons (pe_op op_mul (pv 3) (pe_callTy (T := "int")  call_int1 (by rfl) T.n_int (by decide +kernel) (pa_cons (pe_cmpR op_ge (pv 3) (pe_op op_powL pe_int pe_int) (nomark _)) pa_nil))) (pa_cons (pe_op op_add (pe_op op_mod (pv 2) (pe_op op_add (pe_op op_powL pe_int pe_int) pe_int)) (pe_op op_mul pe_int (pv 1))) (pa_cons pe_int pa_nil))))))))), ?_⟩
    have hk2 : (k : Int) ≤ 1000 := by omega
    have hk0 : (0 : Int) ≤ k := Int.natCast_nonneg _
    -- cell = 7919 * at * at + 104729 * at + 11
    refine ⟨_, rfl, _, _, rfl, rfl, .inl ⟨by decide, by decide⟩, _, rfl, _, _, rfl, rfl, .inr ⟨by omega, by omega⟩, _, rfl, _, _, rfl, rfl, .inl ⟨by decide, by decide⟩, _, _, rfl, rfl, _, _, rfl, rfl, ?_⟩
    -- if at < len(script)
    refine ⟨fun σ H' => H' = H ∧ ∃ c : Int, σ = [some (.ref a), some (.int k), some (.int c), none], ?_, ?_⟩
    · refine ⟨_, rfl, _, rfl, a, _, rfl, .inl hS, _, _, rfl, rfl, _, rfl, ?_⟩
      refine ite2 (fun hc => ?_) (fun hc => ?_)
      · have hlt : k < ns.length := by
          have := of_decide_eq_true hc
          rw [List.length_map] at this
          omega
        exact ⟨_, rfl, _, rfl, a, _, _, .int ns[k], rfl, rfl, hS, atI_nat (by rw [List.getElem?_map, List.getElem?_eq_getElem hlt]; rfl), rfl, _, rfl⟩
      · exact ⟨rfl, _, rfl⟩
    · rintro σ H' ⟨rfl, c, rfl⟩
      -- far = abs(cell); return [far * int(far >= 10 ** 18), cell % (10 ** 18 + 9) + 1299709 * at, 0]
      refine ⟨_, rfl, _, rfl, ?_⟩
      refine ⟨_, rfl, _, rfl, _, _, rfl, rfl, pow10, _, _, rfl, rfl, .inr ⟨_, rfl, _, _, rfl, rfl, cmul_b, ?_⟩⟩
      refine ⟨_, rfl, _, _, rfl, rfl, pow10, _, _, rfl, rfl, _, _, rfl, rfl, (by show (0 : Int) < 10 ^ (18 : Int).toNat + 9; decide), _, rfl, _, _, rfl, rfl, .inl ⟨by decide, by decide⟩, _, _, rfl, rfl, (by show 3 ≤ sizeLine; decide), fun p hp => ?_⟩
      exact q p _ hp (same_upd hp) (bag_made hk0 hk2)
abbrev sp_law_take (K : PySem.W.Frag) : Sp := spTake
theorem ok_law_take (T : Txt K mg) : FnOk P w K mg base CX0 1 (He.fAd K ("_law_take", none)) T.d_law_take ["_law_bag_here", "_law_size"] (sp_law_take K) := by
  refine T.F_law_take.ok sc_law_take (fun vs H Q E h => ?_) (fun cdv A outer s H vs Q E hr h => ?_)
  · obtain ⟨p, z, n, rfl, _⟩ := take_un h
    rfl
  · obtain ⟨p, z, n, rfl, hB, hz0, hz1, hn, q⟩ := take_un h
    refine ⟨_, PSs.nox (pss_cons (ps_if (pt_cmpR op_gt (pe_ix ix_list (pv 0) pe_int (fun _ _ => rfl)) pe_int (nomark _))
      (pss_cons (ps_set (i := 2) sc_law_take.nd rfl (Or.inl rfl) (pe_op op_mod (pe_ix ix_list (pv 0) pe_int (fun _ _ => rfl)) (pv 1)))
      (pss_cons (ps_asg (pe_op op_fdiv (pe_ix ix_list (pv 0) pe_int (fun _ _ => rfl)) (pv 1)) (pg_sub (pv 0) pe_int set_list))
      (pss_one (ps_ret (pv 2)))))
      pss_nil)
      (pss_cons (ps_set (i := 3) sc_law_take.nd rfl (Or.inl rfl) (pe_tup (pa_cons pe_int (pa_cons pe_int (pa_cons pe_int (pa_cons pe_int (pa_cons pe_int (pa_cons pe_int (pa_cons pe_int (pa_cons pe_int pa_nil))))))))))
      (pss_cons (ps_asg (pe_op op_add (pe_ix ix_list (pv 0) pe_int (fun _ _ => rfl)) pe_int) (pg_sub (pv 0) pe_int set_list))
      (pss_cons (ps_set (i := 4) sc_law_take.nd rfl (Or.inl rfl) (pe_ix ix_list (pv 0) pe_int (fun _ _ => rfl)))
      (pss_cons (ps_set (i := 5) sc_law_take.nd rfl (Or.inl rfl) (pe_op op_add (pe_op op_add (pe_op op_mul (pe_ix ix_list (pv 0) pe_int (fun _ _ => rfl)) (pe_op op_add (pe_op op_mul pe_int (pv 4)) pe_int)) (pe_op op_mul (pe_op op_mul pe_int (pv 4)) (pv 4))) pe_int))
      (pss_cons (ps_set (i := 6) sc_law_take.nd rfl (Or.inl rfl) (pe_op op_mod (pe_op op_powL (pv 5) pe_int) (pe_ix ix_tup (pv 3) (pe_op op_mod (pv 4) pe_int) (fun _ _ => rfl))))
      (pss_one (ps_ret (pe_op op_mod (pe_op op_fdiv (pe_op op_mod (pe_op op_mul (pv 6) (pe_op op_add (pe_op op_fdiv (pv 6) pe_int) pe_int)) (pe_ix ix_tup (pv 3) (pe_op op_mod (pe_op op_add (pv 4) pe_int) pe_int) (fun _ _ => rfl))) pe_int) (pv 1)))))))))), ?_⟩
    obtain ⟨a, b, c, hp, ha, hb, hb1, hc, hc1⟩ := hB.ex
    -- if bag[0] > 0
    refine ⟨_, rfl, p, _, _, _, rfl, rfl, SqL.of hp, at0, _, _, rfl, rfl, _, rfl, ?_⟩
    refine ite2 (fun _ => ?_) (fun _ => ?_)
    · -- digit = bag[0] % size
      refine ⟨_, rfl, p, _, _, _, rfl, rfl, SqL.of hp, at0, _, rfl, _, _, rfl, rfl, hz0, ?_⟩
      -- bag[0] = bag[0] // size
      refine ⟨_, rfl, p, _, _, _, rfl, rfl, SqL.of hp, at0, _, rfl, _, _, rfl, rfl, ⟨hz0, hz1⟩, _, rfl, p, _, _, 0, rfl, rfl, hp, rfl, ?_⟩
      refine ⟨_, rfl, ?_⟩
      refine q (a % z) _ (Int.emod_nonneg _ (by omega)) (Int.emod_lt_of_pos _ hz0) ⟨_, _, _, upd_same, Int.ediv_nonneg ha (by omega), hb, hb1, hc, by omega⟩ (mut_keep rfl)
    · -- primes
      refine ⟨by show 8 ≤ sizeLine; decide, fun t ht => ?_⟩
      generalize hE : upd H t _ = H1
      have k1 := new_at hE
      have s1 := new_same hE ht
      have hp1 := s1 _ _ hp
      have npt : p ≠ t := ne_some hp ht
      -- bag[2] = bag[2] + 1
      refine ⟨_, rfl, p, _, _, _, rfl, rfl, SqL.of hp1, at2, _, _, rfl, rfl, _, rfl, p, _, _, 2, rfl, rfl, hp1, rfl, ?_⟩
      generalize hE2 : upd H1 p _ = H2
      have hp2 : H2 p = some (.lst [.int a, .int b, .int (c + 1)]) := new_at hE2
      have kp2 := mut_keep hE2
      have k2 := kp2 _ _ k1 npt.symm
      have bag2 : Bag (n + 1) H2 p := ⟨_, _, _, hp2, ha, hb, hb1, by omega, by omega⟩
      have kpA : Kp p H H2 := (Kp.of s1).trans kp2
      -- stage, basis
      refine ⟨_, rfl, p, _, _, _, rfl, rfl, SqL.of hp2, at2, ?_⟩
      refine ⟨_, rfl, p, _, _, _, rfl, rfl, SqL.of hp2, at1, _, rfl, _, _, rfl, rfl, .inl ⟨by decide, by decide⟩, _, _, rfl, rfl, _, _, rfl, rfl, .inl ⟨by omega, by omega⟩, _, rfl, _, _, rfl, rfl, .inl ⟨by decide, by decide⟩, _, rfl, _, _, rfl, rfl, .inr ⟨by omega, by omega⟩, _, _, rfl, rfl, _, _, rfl, rfl, ?_⟩
      -- found = basis ** 3 % primes[stage % 8]
      obtain ⟨p1, e1, g1, l1⟩ := prime_at (c + 1)
      refine ⟨_, rfl, _, _, rfl, rfl, ⟨by decide, by decide, basis_small hb hb1 (by omega) (by omega)⟩, _, rfl, _, rfl, _, _, rfl, rfl, (by show (0 : Int) < 8; decide), t, _, _, _, rfl, rfl, SqT.of k2, e1, _, _, rfl, rfl, g1, ?_⟩
      generalize hf : (b * (2 * (c + 1) + 1) + 7919 * (c + 1) * (c + 1) + 29) ^ (3 : Int).toNat % p1 = f
      have f0 : 0 ≤ f := by rw [← hf]; exact Int.emod_nonneg _ (by have : 0 < p1 := g1; omega)
      have f1 : f < 2147483648 := by
        have h1 := Int.emod_lt_of_pos ((b * (2 * (c + 1) + 1) + 7919 * (c + 1) * (c + 1) + 29) ^ (3 : Int).toNat) (show 0 < p1 from g1)
        rw [hf] at h1
        omega
      obtain ⟨p2, e2, g2, l2⟩ := prime_at (c + 1 + 5)
      refine ⟨_, rfl, _, rfl, _, _, rfl, rfl, ⟨by decide, by decide⟩, _, _, rfl, rfl, _, _, rfl, rfl, .inl ⟨by omega, by omega⟩, _, rfl, _, rfl, _, _, rfl, rfl, _, _, rfl, rfl, (by show (0 : Int) < 8; decide), t, _, _, _, rfl, rfl, SqT.of k2, e2, _, _, rfl, rfl, g2, _, _, rfl, rfl, ⟨by decide, by decide⟩, _, rfl, _, _, rfl, rfl, hz0, ?_⟩
      exact q _ _ (Int.emod_nonneg _ (by omega)) (Int.emod_lt_of_pos _ hz0) bag2 kpA

-- SPLIT
/-! ### names drawn -/
def sp_law_name (K : PySem.W.Frag) : Sp := fun vs H Q _ => ∃ (p : Addr) (n : Nat), vs = [.ref p] ∧ Bag n H p ∧ n < 800000000 ∧
  ∀ (x : Str) H', Nm x → Bag (n + 10) H' p → Kp p H H' → Q (.str x) H'
theorem ok_law_name (T : Txt K mg) : FnOk P w K mg base CX0 2 (He.fAd K ("_law_name", none)) T.d_law_name ["_law_bag_here"] (sp_law_name K) := by
  refine T.F_law_name.ok sc_law_name (fun vs H Q E h => ?_) (fun cdv A outer s H vs Q E hr h => ?_)
  · obtain ⟨p, n, rfl, _⟩ := h
    rfl
  · obtain ⟨p, n, rfl, B, hn, q⟩ := h
    refine ⟨_, PSs.nox (pss_cons (ps_set (i := 1) sc_law_name.nd rfl (Or.inr rfl) pe_str)
      (pss_cons (ps_set (i := 2) sc_law_name.nd rfl (Or.inl rfl) (pe_op op_add pe_int (pe_call (ok_law_take T) (hr.mono (by decide)) (by rfl) T.m_law_take T.F_law_take.kp T.b_law_take .nil pass0 (pa_cons (pv 0) (pa_cons (pe_ix ix_list (pe_lst (pa_cons pe_int (pa_cons pe_int pa_nil))) (pe_callTy (T := "int")  call_int1 (by rfl) T.n_int (by decide +kernel) (pa_cons (pe_cmpR op_eq (pe_call (ok_law_take T) (hr.mono (by decide)) (by rfl) T.m_law_take T.F_law_take.kp T.b_law_take .nil pass0 (pa_cons (pv 0) (pa_cons pe_int pa_nil))) pe_int (nomark _)) pa_nil)) (fun _ _ => rfl)) pa_nil)))))
      (pss_one (ps_ret (pe_join pe_str (pe_lc (own := [("_law_spot", 3)]) (by rfl) sc_law_name.nd (pi_range1 (by rfl) T.n_range (pa_cons (pv 2) pa_nil)) (blkOk_by (own := [("_law_spot", 3)]) (N := N_law_name) (sc := defScope s_law_name) (by decide +kernel)) (fun _ _ _ _ _ => (pg_name (i := 3) sc_law_name.nd rfl (Or.inl rfl))) (fun _ _ _ _ _ => pts_nil) (fun _ _ _ _ _ => (pe_ix ix_str (pv 1) (pe_call (ok_law_take T) (hr.mono (by decide)) (by rfl) T.m_law_take T.F_law_take.kp T.b_law_take .nil pass0 (pa_cons (pv 0) (pa_cons pe_int pa_nil))) (fun _ _ => rfl))))))))), ?_⟩
    -- size = 1 + take(bag, [2, 8][int(take(bag, 4) == 0)])
    refine ⟨_, rfl, by show 2 ≤ sizeLine; decide, fun l1 n1 => ?_⟩
    generalize hE1 : upd H l1 _ = H1
    have w1 := new_at hE1
    have s1 := new_same hE1 n1
    have np1 := B.ne n1
    refine ⟨_, rfl, ?_⟩
    refine take_of (z := 4) (B.same s1) (by decide) (by decide) (by omega) fun r2 H2 a2 b2 B2 k2 => ?_
    have ix : ∃ m : Int, 2 ≤ m ∧ m ≤ 8 ∧ atI [V.int 2, V.int 8] (if decide (V.int r2 = V.int 0) = true then 1 else 0) = some (.int m) := by
      cases decide (V.int r2 = V.int 0)
      · exact ⟨2, by decide, by decide, at0⟩
      · exact ⟨8, by decide, by decide, at1⟩
    obtain ⟨m, m0, m1, em⟩ := ix
    refine ⟨rfl, .inr ⟨_, rfl, l1, _, _, _, rfl, rfl, SqL.of (k2 _ _ w1 np1.symm), em, ?_⟩⟩
    refine take_of (z := m) B2 (by omega) (by omega) (by omega) fun r3 H3 a3 b3 B3 k3 => ?_
    have kA : Kp p H H3 := ((Kp.of s1).trans k2).trans k3
    refine ⟨_, _, rfl, rfl, ?_⟩
    -- "".join([..])
    refine ⟨⟨_, rfl⟩, _, rfl, _, rfl, by omega, by omega, fun D nD => ?_⟩
    have npD := B3.ne nD
    refine lc_range (lo := 0) (n := (1 + r3).toNat) (fun i H' => Bag (n + 2 + i) H' p ∧ Kp p H H' ∧ ∃ ys : List Str, ys.length = i ∧ (∀ y ∈ ys, ∃ c, y = ⟨#[c]⟩ ∧ 97 ≤ c ∧ c ≤ 122) ∧ H' D = some (.lst (ys.map V.str)))
      ⟨B3.same (same_upd nD), kA.same (same_upd nD), [], rfl, (fun y hy => nomatch hy), upd_same⟩ ?_ ?_
    · rintro i H4 hi ⟨B4, k4, ys, hl, hy, w4⟩
      refine ⟨rfl, yes_of (iteT ?_)⟩
      refine ⟨_, rfl, _, rfl, ?_⟩
      refine take_of (z := 26) B4 (by decide) (by decide) (by omega) fun r5 H5 a5 b5 B5 k5 => ?_
      obtain ⟨c, ec, c0, c1⟩ := letter_at a5 b5
      have w5 := k5 _ _ w4 npD.symm
      refine ⟨_, _, c, rfl, rfl, by decide +kernel, ec, _, w5, by rw [List.length_map]; exact small1000 (by omega), ?_⟩
      have nDH : H D = none := kA.free nD npD.symm
      refine ⟨B5.keep (mut_keep rfl) npD, (k4.trans k5).own (mut_keep rfl) nDH, ys ++ [⟨#[c]⟩], by rw [List.length_append, hl]; rfl, fun y hyy => ?_, by rw [upd_same, List.map_append]; rfl⟩
      rcases List.mem_append.mp hyy with hyy | hyy
      · exact hy y hyy
      · rw [List.mem_singleton.mp hyy]
        exact ⟨c, rfl, c0, c1⟩
    · rintro H4 ⟨B4, k4, ys, hl, hy, w4⟩
      have hsum : (ys.map (·.length)).sum ≤ 8 := by
        have : ∀ ys : List Str, (∀ y ∈ ys, ∃ c, y = ⟨#[c]⟩ ∧ 97 ≤ c ∧ c ≤ 122) → (ys.map (·.length)).sum = ys.length := by
          intro ys
          induction ys with
          | nil => exact fun _ => rfl
          | cons y ys ih =>
            intro h
            obtain ⟨c, rfl, _⟩ := h y (List.mem_cons_self ..)
            rw [List.map_cons, List.sum_cons, ih fun z hz => h z (List.mem_cons_of_mem _ hz), List.length_cons]
            show 1 + ys.length = ys.length + 1
            omega
        rw [this ys hy]
        omega
      refine ⟨_, D, ys, rfl, rfl, .inl (SqL.of w4), by rw [show (Str.ofString "").length = 0 from by decide +kernel]; omega, ?_⟩
      exact q _ H4 (join_one hy (by omega) (by omega)) (B4.le (by omega)) k4
def sp_law_names (K : PySem.W.Frag) : Sp := fun vs H Q _ => ∃ (p : Addr) (k n : Nat), vs = [.ref p, .int k] ∧ Bag n H p ∧ n < 700000000 ∧ k ≤ 20 ∧
  ∀ (xs : List Str) (l : Addr) H', xs.length = k → xs.Nodup → (∀ x ∈ xs, Nm x) → H l = none → H' l = some (.lst (xs.map V.str)) → Bag (n + 10 * k) H' p → Kp p H H' → Q (.ref l) H'
theorem ok_law_names (T : Txt K mg) : FnOk P w K mg base CX0 3 (He.fAd K ("_law_names", none)) T.d_law_names ["_law_bag_here", "_law_size"] (sp_law_names K) := by
  refine T.F_law_names.ok sc_law_names (fun vs H Q E h => ?_) (fun cdv A outer s H vs Q E hr h => ?_)
  · obtain ⟨p, k, n, rfl, _⟩ := h
    rfl
  · obtain ⟨p, k, n, rfl, B, hn, hk, q⟩ := h
    refine ⟨_, PSs.nox (pss_cons (ps_set (i := 2) sc_law_names.nd rfl (Or.inr rfl) (pe_lst pa_nil))
      (pss_cons (ps_for PassesOwn.never rfl (pi_range1 (by rfl) T.n_range (pa_cons (pv 1) pa_nil)) (pg_name (i := 3) sc_law_names.nd rfl (Or.inl rfl))
      (pss_cons (ps_set (i := 4) sc_law_names.nd rfl (Or.inr rfl) (pe_call (ok_law_name T) (hr.mono (by decide)) (by rfl) T.m_law_name T.F_law_name.kp T.b_law_name .nil pass0 (pa_cons (pv 0) pa_nil)))
      (pss_mid (ps_if (pt_cmpR op_in_seq (pv 4) (pv 2) (by rfl))
      (pss_one (ps_set (i := 4) sc_law_names.nd rfl (Or.inr rfl) (pe_ix ix_list (pe_lc (own := [("_law_one", 5)]) (by rfl) sc_law_names.nd (pi_str pe_str) (blkOk_by (own := [("_law_one", 5)]) (N := N_law_names) (sc := defScope s_law_names) (by decide +kernel)) (fun _ _ _ _ _ => (pg_name (i := 5) sc_law_names.nd rfl (Or.inl rfl))) (fun _ _ _ _ _ => (pts_one (pt_cmpR (r := rIn K true) op_notIn_seq (pe_op op_add_str (pv 5) (pe_slice sl_str (pv 4) (po_some pe_int) po_none)) (pv 2) (by rfl)))) (fun _ _ _ _ _ => (pe_op op_add_str (pv 5) (pe_slice sl_str (pv 4) (po_some pe_int) po_none)))) pe_int (fun _ _ => rfl))))
      pss_nil)
      (pss_one (ps_expr (pe_bm PySem.F.plainAttrs_list PySem.F.slot_list_append PySem.F.type_list_append mt_append (pv 2) (pa_cons (pv 4) pa_nil)))))))
      (pss_one (ps_ret (pv 2))))), ?_⟩
    refine ⟨by show 0 ≤ sizeLine; decide, fun l nl => ?_⟩
    generalize hE1 : upd H l _ = H1
    have w1 := new_at hE1
    have s1 := new_same hE1 nl
    have npl := B.ne nl
    refine ⟨_, rfl, _, rfl, by omega, by omega, for_range (lo := 0) (n := (k : Int).toNat) (fun i σ H' => Bag (n + 10 * i) H' p ∧ Kp p H H' ∧ ∃ (xs : List Str) (y1 y2 y3 : Option V), xs.length = i ∧ xs.Nodup ∧ (∀ x ∈ xs, Nm x) ∧ H' l = some (.lst (xs.map V.str)) ∧ σ = [some (.ref p), some (.int k), some (.ref l), y1, y2, y3])
      ⟨B.same s1, Kp.of s1, [], none, none, none, rfl, List.nodup_nil, (fun x hx => nomatch hx), w1, rfl⟩ ?_ ?_⟩
    · rintro i σ H2 hi ⟨B2, k2, xs, y1, y2, y3, hl, hnd, hnm, w2, rfl⟩
      -- word = name(bag)
      refine ⟨_, rfl, p, n + 10 * i, rfl, B2, by omega, fun w H3 hw B3 k3 => ?_⟩
      have w3 := k3 _ _ w2 npl.symm
      -- if word in found
      refine ⟨fun σ H' => Same H3 H' ∧ ∃ (x : Str) (y3 : Option V), Nm x ∧ x ∉ xs ∧ σ = [some (.ref p), some (.int k), some (.ref l), some (.int (0 + (i : Int))), some (.str x), y3], ?_, ?_⟩
      · refine ⟨_, rfl, _, rfl, l, _, rfl, .inl (SqL.of w3), rfl, strs_flat xs, _, rfl, ?_⟩
        rw [inV_str]
        refine ite2 (fun hc => ?_) (fun hc => ?_)
        · refine ⟨_, rfl, fun D nD => ?_⟩
          refine lc_it (walk_str (z := lettersS)) (fun j H' => Same H3 H' ∧ H' D = some (.lst ((((List.range j).map fun i => (⟨#[97 + i]⟩ : Str) ++ tailS w).filter fun x => decide (x ∉ xs)).map V.str))) ⟨same_upd nD, upd_same⟩ (fun _ _ _ _ => trivial) ?_ ?_
          · rintro j x H4 H4' hj ⟨s4, w4⟩ ⟨rfl, c, hc', rfl⟩
            obtain ⟨hj26, rfl⟩ := letters_get hc'
            refine ⟨rfl, ?_⟩
            have hlen : (tailS w).length ≤ 8 := Nat.le_trans (cutS_length _ _ _) hw.2.2
            have ltot : ((⟨#[97 + j]⟩ : Str).length + (tailS w).length) ≤ sizeLine := by
              have h1 : (⟨#[97 + j]⟩ : Str).length = 1 := rfl
              rw [h1]
              exact Nat.le_of_lt (small1000 (by omega))
            refine ⟨_, rfl, _, rfl, _, rfl, w, rfl, Nat.le_trans hw.2.2 (by decide), _, _, rfl, rfl, ltot, _, rfl, l, _, rfl, .inl (SqL.of (s4 _ _ w3)), rfl, strs_flat xs, _, rfl, ?_⟩
            rw [range_map_succ', List.filter_append, List.map_append]
            show if (if true = true then !inV (.str ((⟨#[97 + j]⟩ : Str) ++ tailS w)) (xs.map V.str) else _) = true then _ else _
            rw [if_pos rfl, inV_str]
            by_cases hin : (⟨#[97 + j]⟩ : Str) ++ tailS w ∈ xs
            · rw [decide_eq_true hin]
              refine iteF ⟨s4, ?_⟩
              rw [List.filter_cons_of_neg (p := fun x => decide (x ∉ xs)) (by rw [decide_eq_false (fun z => z hin)]; exact Bool.false_ne_true)]
              rw [List.filter_nil, List.map_nil, List.append_nil]
              exact w4
            · rw [decide_eq_false hin]
              refine iteT ?_
              refine ⟨_, rfl, _, rfl, _, rfl, w, rfl, Nat.le_trans hw.2.2 (by decide), _, _, rfl, rfl, ltot, _, w4, ?_, Same.own (q := D) (H1 := H4') s4 (mut_keep rfl) nD, ?_⟩
              · rw [List.length_map]
                refine Nat.lt_of_le_of_lt (List.length_filter_le _ _) ?_
                rw [List.length_map, List.length_range]
                exact small1000 (by omega)
              · rw [upd_same, List.filter_cons_of_pos (p := fun x => decide (x ∉ xs)) (decide_eq_true hin)]
                rfl
          · rintro H4 ⟨s4, w4⟩
            rw [letters_size] at w4
            obtain ⟨x, hxm, hxf⟩ := free_in (cands_nodup (tailS w)) (ds := xs) (by unfold cands; rw [List.length_map, List.length_range]; omega)
            generalize hF : ((List.range 26).map fun i => (⟨#[97 + i]⟩ : Str) ++ tailS w).filter (fun x => decide (x ∉ xs)) = fs at w4
            have hmem : ∀ z ∈ fs, Nm z ∧ z ∉ xs := fun z hz => by
              rw [← hF] at hz
              obtain ⟨h1, h2⟩ := List.mem_filter.mp hz
              obtain ⟨i, hi, rfl⟩ := List.mem_map.mp h1
              exact ⟨cand_nm hw (List.mem_range.mp hi), of_decide_eq_true h2⟩
            have hx : x ∈ fs := by
              rw [← hF]
              exact List.mem_filter.mpr ⟨hxm, decide_eq_true hxf⟩
            cases fs with
            | nil => cases hx
            | cons z zs =>
              refine ⟨D, _, _, _, rfl, rfl, SqL.of w4, at0, s4, z, _, (hmem z (List.mem_cons_self ..)).1, (hmem z (List.mem_cons_self ..)).2, rfl⟩
        · refine ⟨Same.refl H3, w, _, hw, fun z => hc (decide_eq_true z), rfl⟩
      · rintro σ H4 ⟨s4, x, y3, hx, hxn, rfl⟩
        have w4 := s4 _ _ w3
        refine ⟨_, rfl, .inl ⟨rfl, _, SqL.of w4⟩, _, rfl, l, _, _, rfl, rfl, w4, by rw [List.length_map]; exact small1000 (by omega), ?_⟩
        have B4 := B3.same s4
        refine ⟨(B4.keep (mut_keep rfl) npl).le (by omega), ((k2.trans k3).same s4).own (mut_keep rfl) nl, xs ++ [x], _, _, _, by rw [List.length_append, hl]; rfl, ?_, fun z hz => ?_, by rw [upd_same, List.map_append]; rfl, rfl⟩
        · rw [List.nodup_append]
          exact ⟨hnd, List.nodup_cons.mpr ⟨by simp, List.nodup_nil⟩, fun a ha b hb e => hxn (by rw [List.mem_singleton.mp hb] at e; rw [← e]; exact ha)⟩
        · rcases List.mem_append.mp hz with hz | hz
          · exact hnm z hz
          · rw [List.mem_singleton.mp hz]
            exact hx
    · rintro σ H2 ⟨B2, k2, xs, y1, y2, y3, hl, hnd, hnm, w2, rfl⟩
      exact ⟨_, rfl, q xs l H2 (by omega) hnd hnm nl w2 (B2.le (by omega)) k2⟩

-- SPLIT
/-! ### some of a pool -/
def sp_law_some (K : PySem.W.Frag) : Sp := fun vs H Q _ => ∃ (p l : Addr) (k n : Nat) (xs : List Str), vs = [.ref p, .ref l, .int k] ∧ Bag n H p ∧ n < 700000000 ∧ k ≤ 20 ∧ SqL K H l (xs.map V.str) ∧ l ≠ p ∧ xs.Nodup ∧ xs.length ≤ 100 ∧ (∀ x ∈ xs, Nm x) ∧
  ∀ (ys : List Str) (t : Addr) H', ys.Nodup → (∀ y ∈ ys, y ∈ xs) → ys.length ≤ k → H t = none → H' t = some (.tup (ys.map V.str)) → Bag (n + 1 + k) H' p → Kp p H H' → Q (.ref t) H'
theorem ok_law_some (T : Txt K mg) : FnOk P w K mg base CX0 2 (He.fAd K ("_law_some", none)) T.d_law_some ["_law_bag_here", "_law_pool", "_law_most"] (sp_law_some K) := by
  refine T.F_law_some.ok sc_law_some (fun vs H Q E h => ?_) (fun cdv A outer s H vs Q E hr h => ?_)
  · obtain ⟨p, l, k, n, xs, rfl, _⟩ := h
    rfl
  · obtain ⟨p, l, k, n, xs, rfl, B, hn, hk, hL, nlp, hnd, hxl, hnm, q⟩ := h
    refine ⟨_, PSs.nox (pss_cons (ps_set (i := 3) sc_law_some.nd rfl (Or.inl rfl) (pe_callTy (T := "list")  call_list_of (by rfl) T.n_list (by decide +kernel) (pa_cons (pv 1) pa_nil)))
      (pss_cons (ps_set (i := 4) sc_law_some.nd rfl (Or.inl rfl) (pe_lst pa_nil))
      (pss_cons (ps_for PassesOwn.never rfl (pi_range1 (by rfl) T.n_range (pa_cons (pe_call (ok_law_take T) (hr.mono (by decide)) (by rfl) T.m_law_take T.F_law_take.kp T.b_law_take .nil pass0 (pa_cons (pv 0) (pa_cons (pe_op op_add (pv 2) pe_int) pa_nil))) pa_nil)) (pg_name (i := 5) sc_law_some.nd rfl (Or.inl rfl))
      (pss_one (ps_if (pt_cmpR (op_neD hr.units) (pv 3) (pe_lst pa_nil) (nomark _))
      (pss_one (ps_expr (pe_bm PySem.F.plainAttrs_list PySem.F.slot_list_append PySem.F.type_list_append mt_append (pv 4) (pa_cons (pe_bm PySem.F.plainAttrs_list PySem.F.slot_list_pop PySem.F.type_list_pop mt_popAt (pv 3) (pa_cons (pe_call (ok_law_take T) (hr.mono (by decide)) (by rfl) T.m_law_take T.F_law_take.kp T.b_law_take .nil pass0 (pa_cons (pv 0) (pa_cons (pe_callB (id := "len")  call_len_seq (by rfl) T.n_len (by decide +kernel) (pa_cons (pv 3) pa_nil)) pa_nil))) pa_nil)) pa_nil))))
      pss_nil)))
      (pss_one (ps_ret (pe_callTy (T := "tuple")  call_tuple_of (by rfl) T.n_tuple (by decide +kernel) (pa_cons (pv 4) pa_nil))))))), ?_⟩
    -- left = list(pool); found = []
    refine ⟨_, rfl, l, _, rfl, .inl hL, fun a na => ?_⟩
    generalize hE1 : upd H a _ = H1
    have w1 := new_at hE1
    have s1 := new_same hE1 na
    have npa := B.ne na
    refine ⟨by show 0 ≤ sizeLine; decide, fun b nb => ?_⟩
    generalize hE2 : upd H1 b _ = H2
    have w2 := new_at hE2
    have s2 := new_same hE2 nb
    have npb := (B.same s1).ne nb
    have nab : a ≠ b := ne_some w1 nb
    have nbH : H b = none := s1.free nb
    -- range(take(bag, most + 1))
    refine ⟨_, rfl, _, rfl, _, _, rfl, rfl, ?_⟩
    refine take_of (z := (k : Int) + 1) ((B.same s1).same s2) (by omega) (by omega) (by omega) fun r3 H3 a3 b3 B3 k3 => ?_
    have kA : Kp p H H3 := (Kp.of (s1.trans s2)).trans k3
    refine ⟨r3, rfl, by omega, by omega, for_range (lo := 0) (n := r3.toNat) (fun i σ H' => Bag (n + 1 + i) H' p ∧ Kp p H H' ∧ ∃ (ls fs : List Str) (y : Option V), H' a = some (.lst (ls.map V.str)) ∧ H' b = some (.lst (fs.map V.str)) ∧ (fs ++ ls).Nodup ∧ (∀ x ∈ fs ++ ls, x ∈ xs) ∧ fs.length ≤ i ∧ ls.length ≤ 100 ∧
        σ = [some (.ref p), some (.ref l), some (.int k), some (.ref a), some (.ref b), y])
      ⟨B3, kA, xs, [], none, k3 _ _ (s2 _ _ w1) npa.symm, k3 _ _ w2 npb.symm, hnd, fun x hx => hx, Nat.le_refl _, hxl, rfl⟩ ?_ ?_⟩
    · rintro i σ H4 hi ⟨B4, k4, ls, fs, y, wa, wb, hnd4, hsub, hfl, hll, rfl⟩
      have nmL : ∀ x ∈ ls, Nm x := fun x hx => hnm x (hsub x (List.mem_append_right _ hx))
      -- if left != []
      refine ⟨_, rfl, by show 0 ≤ sizeLine; decide, fun l5 n5 => ?_⟩
      generalize hE5 : upd H4 l5 _ = H5
      have w5 : H5 l5 = some (.lst (([] : List Str).map V.str)) := new_at hE5
      have s5 := new_same hE5 n5
      have wa5 := s5 _ _ wa
      have wb5 := s5 _ _ wb
      refine neD_strs (SqL.of wa5) (SqL.of w5) (fun x hx => (nmL x hx).ok) (fun x hx => nomatch hx) ⟨_, rfl, ?_⟩
      by_cases hls : ls = []
      · rw [decide_eq_true hls]
        refine iteF ?_
        exact ⟨(B4.same s5).le (by omega), k4.same s5, ls, fs, _, wa5, wb5, hnd4, hsub, by omega, hll, rfl⟩
      · rw [decide_eq_false hls]
        refine iteT ?_
        have hpos : 0 < ls.length := List.length_pos_iff.mpr hls
        -- found.append(left.pop(take(bag, len(left))))
        refine ⟨_, rfl, .inl ⟨rfl, _, SqL.of wb5⟩, _, rfl, .inl ⟨rfl, _, SqL.of wa5⟩, _, rfl, _, rfl, a, _, rfl, .inl (SqL.of wa5), ?_⟩
        refine take_of (z := ((ls.map V.str).length : Int)) (B4.same s5) (by rw [List.length_map]; omega) (by rw [List.length_map]; omega) (by omega) fun r6 H6 a6 b6 B6 k6 => ?_
        rw [List.length_map] at b6
        have hr : r6.toNat < ls.length := by omega
        have wa6 := k6 _ _ wa5 npa.symm
        have wb6 := k6 _ _ wb5 npb.symm
        refine ⟨a, _, r6, r6.toNat, .str ls[r6.toNat], rfl, rfl, wa6, by omega, by omega, by rw [List.length_map]; exact seq_ix a6 b6, by rw [List.getElem?_map, List.getElem?_eq_getElem hr]; rfl, ?_⟩
        generalize hE7 : upd H6 a _ = H7
        have wa7 := new_at hE7
        have m7 := mut_keep hE7
        have wb7 := m7 _ _ wb6 nab.symm
        refine ⟨b, _, _, rfl, rfl, wb7, by rw [List.length_map]; exact small1000 (by omega), ?_⟩
        generalize hE8 : upd H7 b _ = H8
        have wb8 := new_at hE8
        have m8 := mut_keep hE8
        have hperm : (fs ++ [ls[r6.toNat]] ++ ls.eraseIdx r6.toNat).Perm (fs ++ ls) := by
          rw [List.append_assoc]
          exact List.Perm.append_left fs (perm_pick ls r6.toNat hr)
        refine ⟨((B6.keep m7 npa).keep m8 npb).le (by omega), (((k4.same s5).trans k6).own m7 na).own m8 nbH, ls.eraseIdx r6.toNat, fs ++ [ls[r6.toNat]], _, ?_, by rw [List.map_append]; exact wb8, hperm.nodup_iff.mpr hnd4, fun x hx => hsub x (hperm.mem_iff.mp hx), by rw [List.length_append]; exact Nat.succ_le_succ hfl, Nat.le_trans (List.length_eraseIdx_le ..) hll, rfl⟩
        have wa8 := m8 _ _ wa7 nab
        rw [map_pick] at wa8
        exact wa8
    · rintro σ H4 ⟨B4, k4, ls, fs, y, wa, wb, hnd4, hsub, hfl, hll, rfl⟩
      refine ⟨_, rfl, b, _, rfl, .inl ⟨SqL.of wb, fun t nt => ?_⟩⟩
      have ntp := (B4.ne nt).symm
      exact q fs t _ (List.nodup_append.mp hnd4).1 (fun y hy => hsub y (List.mem_append_left _ hy)) (by omega) (k4.free nt ntp) upd_same ((B4.same (same_upd nt)).le (by omega)) (k4.same (same_upd nt))

-- SPLIT
/-! ### a stand -/
structure SF where
  wished : List Str
  up : List Str
  later : List Str
  back : List Str
def SStr (s : SF) : Prop := ∀ x ∈ s.wished ++ s.up ++ s.later ++ s.back, PyData.strOk x = true
theorem SStr.wi {s : SF} (h : SStr s) : ∀ x ∈ s.wished, PyData.strOk x = true := fun x m => h x (by simp only [List.mem_append]; exact .inl (.inl (.inl m)))
theorem SStr.up {s : SF} (h : SStr s) : ∀ x ∈ s.up, PyData.strOk x = true := fun x m => h x (by simp only [List.mem_append]; exact .inl (.inl (.inr m)))
theorem SStr.la {s : SF} (h : SStr s) : ∀ x ∈ s.later, PyData.strOk x = true := fun x m => h x (by simp only [List.mem_append]; exact .inl (.inr m))
theorem SStr.ba {s : SF} (h : SStr s) : ∀ x ∈ s.back, PyData.strOk x = true := fun x m => h x (by simp only [List.mem_append]; exact .inr m)
abbrev sFs (w u l b : V) : List (Str × V) := [("wished", w), ("up", u), ("later", l), ("back", b)]
def sp_Stand_init (K : PySem.W.Frag) : Sp := fun vs H Q _ => ∃ (p dx : Addr) (v1 v2 v3 v4 : V), vs = [.ref p, v1, v2, v3, v4] ∧ H p = some (.ins (He.ga K "Stand") dx []) ∧
  ∀ H', H' p = some (.ins (He.ga K "Stand") dx (sFs v1 v2 v3 v4)) → Kp p H H' → Q .non H'
theorem ok_Stand_init (T : Txt K mg) : FnOk P w K mg base CX0 1 (He.fAd K ("Stand", some "__init__")) T.d_Stand_init ["self", "wished", "up", "later", "back"] (sp_Stand_init K) := by
  refine T.F_Stand_init.ok sc_Stand_init (fun vs H Q E h => ?_) (fun cdv A outer s H vs Q E hr h => ?_)
  · obtain ⟨p, dx, v1, v2, v3, v4, rfl, _⟩ := h
    rfl
  · obtain ⟨p, dx, v1, v2, v3, v4, rfl, hp, q⟩ := h
    refine ⟨_, PSs.nox (pss_cons (ps_fld (pv 0) (pv 1) rfl)
      (pss_cons (ps_fld (pv 0) (pv 2) rfl)
      (pss_cons (ps_fld (pv 0) (pv 3) rfl)
      (pss_one (ps_fld (pv 0) (pv 4) rfl))))), ?_⟩
    refine ⟨_, rfl, _, rfl, p, _, dx, [], rfl, hp, T.cl_Stand, T.na_Stand_wished, (by show 0 < 1000; decide), ?_⟩
    refine ⟨_, rfl, _, rfl, p, _, dx, _, rfl, upd_same, T.cl_Stand, T.na_Stand_up, (by show 1 < 1000; decide), ?_⟩
    refine ⟨_, rfl, _, rfl, p, _, dx, _, rfl, upd_same, T.cl_Stand, T.na_Stand_later, (by show 2 < 1000; decide), ?_⟩
    refine ⟨_, rfl, _, rfl, p, _, dx, _, rfl, upd_same, T.cl_Stand, T.na_Stand_back, (by show 3 < 1000; decide), ?_⟩
    refine q _ upd_same fun c o h n => ?_
    rw [upd_ne n, upd_ne n, upd_ne n, upd_ne n]
    exact h
/-- a stand stands at p -/
def StandAt (K : PySem.W.Frag) (H : Hp) (p : Addr) (s : SF) : Prop := ∃ (dx w u l b : Addr), H p = some (.ins (He.ga K "Stand") dx (sFs (.ref w) (.ref u) (.ref l) (.ref b))) ∧
  SqT K H w (s.wished.map V.str) ∧ SqT K H u (s.up.map V.str) ∧ SqT K H l (s.later.map V.str) ∧ SqT K H b (s.back.map V.str)
theorem StandAt.same {H H' : Hp} {p : Addr} {s : SF} (h : StandAt K H p s) (e : Same H H') : StandAt K H' p s := by
  obtain ⟨dx, w, u, l, b, h0, h1, h2, h3, h4⟩ := h
  exact ⟨dx, w, u, l, b, e _ _ h0, tup_same e h1, tup_same e h2, tup_same e h3, tup_same e h4⟩
theorem StandAt.keep {H H' : Hp} {p q : Addr} {s : SF} {n : Nat} (h : StandAt K H p s) (k : Kp q H H') (B : Bag n H q) : StandAt K H' p s := by
  obtain ⟨_, _, _, hq, _⟩ := B.ex
  have nt := NotTp.lst hq
  obtain ⟨dx, w, u, l, b, h0, h1, h2, h3, h4⟩ := h
  exact ⟨dx, w, u, l, b, k _ _ h0 (fun e => by rw [e, hq] at h0; cases h0), k.tup nt h1, k.tup nt h2, k.tup nt h3, k.tup nt h4⟩
/-- what == of a stand and a thing comes to -/
def sp_Stand_eq (K : PySem.W.Frag) : Sp := fun vs H Q _ => ∃ (p : Addr) (s : SF) (y : V), vs = [.ref p, y] ∧ StandAt K H p s ∧ SStr s ∧
  ((∃ (c : Addr) (s' : SF), y = .ref c ∧ StandAt K H c s' ∧ SStr s' ∧ Q (.bl (decide (s.wished = s'.wished ∧ s.up = s'.up ∧ s.later = s'.later ∧ s.back = s'.back))) H) ∨ (∃ T, UO.plainTy H K y T ∧ Q (.bl false) H))
theorem ok_Stand_eq (T : Txt K mg) : FnOk P w K mg base CX0 5 (He.fAd K ("Stand", some "__eq__")) T.d_Stand_eq ["self", "other"] (sp_Stand_eq K) := by
  refine T.F_Stand_eq.ok sc_Stand_eq (fun vs H Q E h => ?_) (fun cdv A outer s H vs Q E hr h => ?_)
  · obtain ⟨p, s, y, rfl, _⟩ := h
    rfl
  · obtain ⟨p, s, y, rfl, hp, hU, h⟩ := h
    refine ⟨_, PSs.nox (pss_one (ps_ret (pe_mid (pe_and (pe_callB (id := "isinstance")  call_isi (by rfl) T.n_isinstance (by decide +kernel) (pa_cons (pv 1) (pa_cons (pe_glob (v := .ref (He.ga K "Stand")) (by rfl) T.m_Stand rfl) pa_nil))) (pe_and (pe_cmpR (op_eqD hr.units) (pe_fld (pv 0) rfl) (pe_fld (pv 1) rfl) (nomark _)) (pe_and (pe_cmpR (op_eqD hr.units) (pe_fld (pv 0) rfl) (pe_fld (pv 1) rfl) (nomark _)) (pe_and (pe_cmpR (op_eqD hr.units) (pe_fld (pv 0) rfl) (pe_fld (pv 1) rfl) (nomark _)) (pe_one (pe_cmpR (op_eqD hr.units) (pe_fld (pv 0) rfl) (pe_fld (pv 1) rfl) (nomark _)))))))))), ?_⟩
    obtain ⟨dx, aw, au, al, ab, hp0, hw, hu, hl, hb⟩ := hp
    rcases h with ⟨c, s', rfl, hc, hU', q⟩ | ⟨Ty, pt, q⟩
    · obtain ⟨dc, cw, cu, cl, cb, hc0, gw, gu, gl, gb⟩ := hc
      refine ⟨fun v H' => H' = H ∧ v = .bl (decide (s.wished = s'.wished ∧ s.up = s'.up ∧ s.later = s'.later ∧ s.back = s'.back)), ?_, ?_⟩
      · refine ⟨_, rfl, _, _, _, _, true, rfl, .own _, T.ix_Stand.ty T.cl_Stand hc0, UO.kit_self _ _, _, rfl, ?_⟩
        refine iteT ?_
        refine ⟨_, rfl, p, _, dx, _, _, rfl, hp0, T.cl_Stand, T.na_Stand_wished, rfl, _, rfl, c, _, dc, _, _, rfl, hc0, T.cl_Stand, T.na_Stand_wished, rfl, eqD_strsT hw gw hU.wi hU'.wi ⟨_, rfl, ?_⟩⟩
        refine ite2 (fun h3 => ?_) (fun h3 => ⟨rfl, congrArg V.bl (decide_eq_false fun z => h3 (decide_eq_true z.1)).symm⟩)
        refine ⟨_, rfl, p, _, dx, _, _, rfl, hp0, T.cl_Stand, T.na_Stand_up, rfl, _, rfl, c, _, dc, _, _, rfl, hc0, T.cl_Stand, T.na_Stand_up, rfl, eqD_strsT hu gu hU.up hU'.up ⟨_, rfl, ?_⟩⟩
        refine ite2 (fun h4 => ?_) (fun h4 => ⟨rfl, congrArg V.bl (decide_eq_false fun z => h4 (decide_eq_true z.2.1)).symm⟩)
        refine ⟨_, rfl, p, _, dx, _, _, rfl, hp0, T.cl_Stand, T.na_Stand_later, rfl, _, rfl, c, _, dc, _, _, rfl, hc0, T.cl_Stand, T.na_Stand_later, rfl, eqD_strsT hl gl hU.la hU'.la ⟨_, rfl, ?_⟩⟩
        refine ite2 (fun h5 => ?_) (fun h5 => ⟨rfl, congrArg V.bl (decide_eq_false fun z => h5 (decide_eq_true z.2.2.1)).symm⟩)
        refine ⟨_, rfl, p, _, dx, _, _, rfl, hp0, T.cl_Stand, T.na_Stand_back, rfl, _, rfl, c, _, dc, _, _, rfl, hc0, T.cl_Stand, T.na_Stand_back, rfl, eqD_strsT hb gb hU.ba hU'.ba ⟨rfl, congrArg V.bl (decide_eq_decide.mpr ⟨fun z => ⟨of_decide_eq_true h3, of_decide_eq_true h4, of_decide_eq_true h5, z⟩, fun z => z.2.2.2⟩)⟩⟩
      · rintro v H' ⟨rfl, rfl⟩
        exact q
    · obtain ⟨ty, hT⟩ := UO.plain_ty pt
      refine ⟨fun v H' => H' = H ∧ v = .bl false, ?_, ?_⟩
      · refine ⟨_, rfl, _, _, _, _, false, rfl, .own _, ty, T.ix_Stand.kit _ hT, _, rfl, ?_⟩
        exact iteF ⟨rfl, rfl⟩
      · rintro v H' ⟨rfl, rfl⟩
        exact q
-- SPLIT
def openL (s : SF) : List Str := s.wished.filter fun x => decide (x ∉ s.up)
def sp_open_in (K : PySem.W.Frag) : Sp := fun vs H Q _ => ∃ (p : Addr) (s : SF), vs = [.ref p] ∧ StandAt K H p s ∧ s.wished.length ≤ 100 ∧
  ∀ l H', H l = none → Same H H' → H' l = some (.lst ((openL s).map V.str)) → Q (.ref l) H'
theorem ok_open_in (T : Txt K mg) : FnOk P w K mg base CX0 1 (He.fAd K ("open_in", none)) T.d_open_in ["stand"] (sp_open_in K) := by
  refine T.F_open_in.ok sc_open_in (fun vs H Q E h => ?_) (fun cdv A outer s H vs Q E hr h => ?_)
  · obtain ⟨p, s, rfl, _⟩ := h
    rfl
  · obtain ⟨p, s, rfl, hp, hl, q⟩ := h
    refine ⟨_, PSs.nox (pss_one (ps_ret (pe_lc (own := [("name", 1)]) (by rfl) sc_open_in.nd (pi_tup (pe_fld (pv 0) rfl)) (blkOk_by (own := [("name", 1)]) (N := N_open_in) (sc := defScope s_open_in) (by decide +kernel)) (fun _ _ _ _ _ => (pg_name (i := 1) sc_open_in.nd rfl (Or.inl rfl))) (fun _ _ _ _ _ => by exact (pts_one (pt_cmpR (r := rIn K true) op_notIn_seq (pv 1) (UP.pe_fldK (K := K) (by rfl) (pv 0) (by rfl)) (by rfl)))) (fun _ _ _ _ _ => (pv 1))))), ?_⟩
    obtain ⟨dx, aw, au, al, ab, hp0, hw, hu, _, _⟩ := hp
    refine ⟨_, rfl, p, _, dx, _, _, rfl, hp0, T.cl_Stand, T.na_Stand_wished, rfl, aw, rfl, ⟨_, hw⟩, fun D nD => lc_tup (K := K) (a := aw) (xs := s.wished.map V.str) (fun i H' => Same H H' ∧ H' D = some (.lst (((s.wished.take i).filter fun x => decide (x ∉ s.up)).map V.str))) ⟨same_upd nD, upd_same⟩
      (fun i H' _ hp => tup_same hp.1 hw) ?_ ?_⟩
    · rintro i y H9 hy ⟨s9, w9⟩
      rw [List.getElem?_map] at hy
      obtain ⟨x, hx, rfl⟩ := Option.map_eq_some_iff.mp hy
      have hi : i < s.wished.length := (List.getElem?_eq_some_iff.mp hx).1
      rw [List.take_add_one, hx, Option.toList_some, List.filter_append]
      refine ⟨rfl, ?_⟩
      refine ⟨_, rfl, _, rfl, p, _, dx, _, _, rfl, s9 _ _ hp0, T.cl_Stand, T.na_Stand_up, rfl, au, _, rfl, .inr (tup_same s9 hu), rfl, strs_flat s.up, _, rfl, ?_⟩
      rw [inV_str]
      by_cases hin : x ∈ s.up
      · rw [decide_eq_true hin]
        refine iteF ⟨s9, ?_⟩
        rw [List.filter_cons_of_neg (p := fun x => decide (x ∉ s.up)) (by rw [decide_eq_false (fun z => z hin)]; exact Bool.false_ne_true), List.filter_nil, List.append_nil]
        exact w9
      · rw [decide_eq_false hin]
        refine iteT ⟨_, rfl, _, w9, ?_, Same.own (q := D) (H1 := H9) s9 (mut_keep rfl) nD, ?_⟩
        · rw [List.length_map]
          refine Nat.lt_of_le_of_lt (List.length_filter_le _ _) (Nat.lt_of_le_of_lt (List.length_take_le _ _) (small1000 (by omega)))
        · rw [upd_same, List.filter_cons_of_pos (p := fun x => decide (x ∉ s.up)) (decide_eq_true hin), List.map_append]
          rfl
    · rintro H9 ⟨s9, w9⟩
      rw [List.length_map, List.take_length] at w9
      exact q D H9 nD s9 w9

-- SPLIT
/-- four rows of names -/
def RowsAt (K : PySem.W.Frag) (H : Hp) (l : Addr) (s : SF) : Prop := ∃ (w u x b : Addr), SqL K H l [.ref w, .ref u, .ref x, .ref b] ∧
  SqT K H w (s.wished.map V.str) ∧ SqT K H u (s.up.map V.str) ∧ SqT K H x (s.later.map V.str) ∧ SqT K H b (s.back.map V.str)
def sp_law_made (K : PySem.W.Frag) : Sp := fun vs H Q _ => ∃ (i : Int) (l : Addr) (s : SF), vs = [.int i, .ref l] ∧ RowsAt K H l s ∧ SStr s ∧
  ∀ p H', H p = none → Same H H' → StandAt K H' p s → Q (.ref p) H'
theorem ok_law_made (T : Txt K mg) : FnOk P w K mg base CX0 5 (He.fAd K ("_law_made", none)) T.d_law_made ["_law_way", "_law_rows"] (sp_law_made K) := by
  refine T.F_law_made.ok sc_law_made (fun vs H Q E h => ?_) (fun cdv A outer s H vs Q E hr h => ?_)
  · obtain ⟨i, l, s, rfl, _⟩ := h
    rfl
  · obtain ⟨i, l, s, rfl, hR, hU, q⟩ := h
    refine ⟨_, PSs.nox (pss_cons (ps_if (pt_cmpR op_eq (pv 0) pe_int (nomark _))
      (pss_one (ps_ret (pe_makeK0 T.mk_Stand (ok_Stand_init T) (hr.mono (by decide)) (by rfl) T.m_Stand T.kb_Stand_init_1_wished_up_later_back.choose_spec pass0 (pk_cons (pe_ix ix_list (pv 1) pe_int (fun _ _ => rfl)) (pk_cons (pe_ix ix_list (pv 1) pe_int (fun _ _ => rfl)) (pk_cons (pe_ix ix_list (pv 1) pe_int (fun _ _ => rfl)) (pk_cons (pe_ix ix_list (pv 1) pe_int (fun _ _ => rfl)) pk_nil)))))))
      pss_nil)
      (pss_cons (ps_if (PW.pt (pw_and (pt_cmpR (op_eqD hr.units) (pe_ix ix_list (pv 1) pe_int (fun _ _ => rfl)) (pe_tup pa_nil) (nomark _)) (pw_and1 (pt_cmpR (op_eqD hr.units) (pe_ix ix_list (pv 1) pe_int (fun _ _ => rfl)) (pe_tup pa_nil) (nomark _)))))
      (pss_one (ps_ret (pe_makeK0 T.mk_Stand (ok_Stand_init T) (hr.mono (by decide)) (by rfl) T.m_Stand T.kb_Stand_init_1_up_wished.choose_spec pass0 (pk_cons (pe_ix ix_list (pv 1) pe_int (fun _ _ => rfl)) (pk_cons (pe_ix ix_list (pv 1) pe_int (fun _ _ => rfl)) pk_nil)))))
      pss_nil)
      (pss_cons (ps_if (pt_cmpR (op_eqD hr.units) (pe_ix ix_list (pv 1) pe_int (fun _ _ => rfl)) (pe_tup pa_nil) (nomark _))
      (pss_one (ps_ret (pe_makeK0 T.mk_Stand (ok_Stand_init T) (hr.mono (by decide)) (by rfl) T.m_Stand T.kb_Stand_init_1_back_later_up.choose_spec pass0 (pk_cons (pe_ix ix_list (pv 1) pe_int (fun _ _ => rfl)) (pk_cons (pe_ix ix_list (pv 1) pe_int (fun _ _ => rfl)) (pk_cons (pe_ix ix_list (pv 1) pe_int (fun _ _ => rfl)) pk_nil))))))
      pss_nil)
      (pss_one (ps_ret (pe_makeK0 T.mk_Stand (ok_Stand_init T) (hr.mono (by decide)) (by rfl) T.m_Stand T.kb_Stand_init_1_back_later_up_wished.choose_spec pass0 (pk_cons (pe_ix ix_list (pv 1) pe_int (fun _ _ => rfl)) (pk_cons (pe_ix ix_list (pv 1) pe_int (fun _ _ => rfl)) (pk_cons (pe_ix ix_list (pv 1) pe_int (fun _ _ => rfl)) (pk_cons (pe_ix ix_list (pv 1) pe_int (fun _ _ => rfl)) pk_nil)))))))))), ?_⟩
    obtain ⟨aw, au, al, ab, hL, hw, hu, hl, hb⟩ := hR
    refine ⟨_, rfl, rfl, _, rfl, ?_⟩
    refine ite2 (fun _ => ?_) (fun _ => ?_)
    · refine ⟨_, rfl, l, _, _, _, rfl, rfl, hL, at0, _, rfl, l, _, _, _, rfl, rfl, hL, at1, _, rfl, l, _, _, _, rfl, rfl, hL, at2, _, rfl, l, _, _, _, rfl, rfl, hL, at3, rfl, rfl, fun p dx np nd ne => ?_⟩
      refine ⟨p, dx, _, _, _, _, rfl, upd_same, fun H' wp kp => ⟨rfl, ?_⟩⟩
      have s9 : Same H H' := Same.made np nd fun b o e n => kp b o e n
      exact q p H' np s9 ⟨dx, aw, au, al, ab, wp, tup_same s9 hw, tup_same s9 hu, tup_same s9 hl, tup_same s9 hb⟩
    -- if rows[2] == () and rows[3] == ()
    refine ⟨_, rfl, l, _, _, _, rfl, rfl, hL, at2, by show 0 ≤ sizeLine; decide, fun e1 n1 => ?_⟩
    generalize hE1 : upd H e1 _ = H1
    have w1 : H1 e1 = some (.tup (([] : List Str).map V.str)) := new_at hE1
    have s1 := new_same hE1 n1
    have last : ∀ H4, Same H H4 → tSeq (tIfS (tTest (tOp (rEqD K) (tOp (rIxL K) (tVar 1) (tC (V.int 0))) (tTup tNil)))
        (tRet (tMakeK (He.ga K "Stand") 0 3 (sp_Stand_init K) (fun us ws => us ++ List.take 1 (List.drop 0 [V.ref (UO.kwAdr K ("Stand", some "__init__") "wished")]) ++ List.take 1 (List.drop 2 ws) ++ List.take 1 (List.drop 1 ws) ++ List.take 1 (List.drop 0 ws)) E0 tNil (tCons (tOp (rIxL K) (tVar 1) (tC (V.int 3))) (tCons (tOp (rIxL K) (tVar 1) (tC (V.int 2))) (tCons (tOp (rIxL K) (tVar 1) (tC (V.int 1))) tNil))))) tNext)
        (tRet (tMakeK (He.ga K "Stand") 0 4 (sp_Stand_init K) (fun us ws => us ++ List.take 1 (List.drop 3 ws) ++ List.take 1 (List.drop 2 ws) ++ List.take 1 (List.drop 1 ws) ++ List.take 1 (List.drop 0 ws)) E0 tNil (tCons (tOp (rIxL K) (tVar 1) (tC (V.int 3))) (tCons (tOp (rIxL K) (tVar 1) (tC (V.int 2))) (tCons (tOp (rIxL K) (tVar 1) (tC (V.int 1))) (tCons (tOp (rIxL K) (tVar 1) (tC (V.int 0))) tNil)))))) { nx := fun _ H' => Q V.non H', rt := Q } [some (.int i), some (.ref l)] H4 := fun H4 s4 => by
      have hL4 := s4.seq hL
      refine ⟨_, rfl, l, _, _, _, rfl, rfl, hL4, at0, by show 0 ≤ sizeLine; decide, fun e5 n5 => ?_⟩
      generalize hE5 : upd H4 e5 _ = H5
      have w5 : H5 e5 = some (.tup (([] : List Str).map V.str)) := new_at hE5
      have s5 := s4.trans (new_same hE5 n5)
      have hL5 := s5.seq hL
      refine eqD_strsT (tup_same s5 hw) (SqT.of w5) hU.wi (fun x h => nomatch h) ⟨_, rfl, ?_⟩
      by_cases h0 : s.wished = []
      · rw [decide_eq_true h0]
        refine iteT ⟨_, rfl, l, _, _, _, rfl, rfl, hL5, at3, _, rfl, l, _, _, _, rfl, rfl, hL5, at2, _, rfl, l, _, _, _, rfl, rfl, hL5, at1, rfl, rfl, fun p dx np nd ne => ?_⟩
        refine ⟨p, dx, _, _, _, _, rfl, upd_same, fun H' wp kp => ⟨rfl, ?_⟩⟩
        have s9 := s5.trans (Same.made np nd fun b o e n => kp b o e n)
        exact q p H' (s5.free np) s9 ⟨dx, _, au, al, ab, wp, by rw [h0]; exact T.e0_Stand_init_wished H', tup_same s9 hu, tup_same s9 hl, tup_same s9 hb⟩
      · rw [decide_eq_false h0]
        refine iteF ⟨_, rfl, l, _, _, _, rfl, rfl, hL5, at3, _, rfl, l, _, _, _, rfl, rfl, hL5, at2, _, rfl, l, _, _, _, rfl, rfl, hL5, at1, _, rfl, l, _, _, _, rfl, rfl, hL5, at0, rfl, rfl, fun p dx np nd ne => ?_⟩
        refine ⟨p, dx, _, _, _, _, rfl, upd_same, fun H' wp kp => ⟨rfl, ?_⟩⟩
        have s9 := s5.trans (Same.made np nd fun b o e n => kp b o e n)
        exact q p H' (s5.free np) s9 ⟨dx, aw, au, al, ab, wp, tup_same s9 hw, tup_same s9 hu, tup_same s9 hl, tup_same s9 hb⟩
    refine eqD_strsT (tup_same s1 hl) (SqT.of w1) hU.la (fun x h => nomatch h) ⟨_, rfl, ?_⟩
    by_cases h2 : s.later = []
    · rw [decide_eq_true h2]
      refine iteT ⟨_, rfl, l, _, _, _, rfl, rfl, s1.seq hL, at3, by show 0 ≤ sizeLine; decide, fun e2 n2 => ?_⟩
      generalize hE2 : upd H1 e2 _ = H2
      have w2 : H2 e2 = some (.tup (([] : List Str).map V.str)) := new_at hE2
      have s2 := s1.trans (new_same hE2 n2)
      have hL2 := s2.seq hL
      refine eqD_strsT (tup_same s2 hb) (SqT.of w2) hU.ba (fun x h => nomatch h) ⟨_, rfl, ?_⟩
      by_cases h3 : s.back = []
      · rw [decide_eq_true h3]
        refine iteT ⟨_, rfl, l, _, _, _, rfl, rfl, hL2, at1, _, rfl, l, _, _, _, rfl, rfl, hL2, at0, rfl, rfl, fun p dx np nd ne => ?_⟩
        refine ⟨p, dx, _, _, _, _, rfl, upd_same, fun H' wp kp => ⟨rfl, ?_⟩⟩
        have s9 := s2.trans (Same.made np nd fun b o e n => kp b o e n)
        exact q p H' (s2.free np) s9 ⟨dx, aw, au, _, _, wp, tup_same s9 hw, tup_same s9 hu, by rw [h2]; exact T.e0_Stand_init_later H', by rw [h3]; exact T.e0_Stand_init_back H'⟩
      · rw [decide_eq_false h3]
        refine iteF ?_
        exact last _ s2
    · rw [decide_eq_false h2]
      refine iteF ?_
      exact last _ s1
-- SPLIT
theorem eqD_strsL {H : Hp} {a b : Addr} {xs ys : List Str} {Q : VK} (h1 : SqL K H a (xs.map V.str)) (h2 : SqL K H b (ys.map V.str)) (hx : ∀ x ∈ xs, PyData.strOk x = true) (hy : ∀ y ∈ ys, PyData.strOk y = true) (q : Q (.bl (decide (xs = ys))) H) : rEqD K (.ref a) (.ref b) H Q := by
  refine ⟨_, _, .lst h1 (dpAll_strs xs), .lst h2 (dpAll_strs ys), shaped_strs hx, shaped_strs hy, ?_⟩
  simp only [PyData.eqv]
  rw [eqvAll_strs xs ys]
  exact q
def sp_law_right (K : PySem.W.Frag) : Sp := fun vs H Q _ => ∃ (p l : Addr) (s : SF), vs = [.ref p, .ref l] ∧ StandAt K H p s ∧ RowsAt K H l s ∧ SStr s ∧ s.wished.length ≤ 100 ∧ ∀ H', Same H H' → Q (.bl true) H'
theorem ok_law_right (T : Txt K mg) : FnOk P w K mg base CX0 5 (He.fAd K ("_law_right", none)) T.d_law_right ["_law_one", "_law_rows"] (sp_law_right K) := by
  refine T.F_law_right.ok sc_law_right (fun vs H Q E h => ?_) (fun cdv A outer s H vs Q E hr h => ?_)
  · obtain ⟨p, l, s, rfl, _⟩ := h
    rfl
  · obtain ⟨p, l, s, rfl, hp, hR, hU, hw9, q⟩ := h
    refine ⟨_, PSs.nox (pss_cons (ps_if (pt_cmpR (op_neD hr.units) (pe_lst (pa_cons (pe_fld (pv 0) rfl) (pa_cons (pe_fld (pv 0) rfl) (pa_cons (pe_fld (pv 0) rfl) (pa_cons (pe_fld (pv 0) rfl) pa_nil))))) (pv 1) (nomark _))
      (pss_one (ps_ret pe_bl))
      pss_nil)
      (pss_cons (ps_setLc (i := 2) (own := [("_law_word", 5)]) (by rfl) sc_law_right.nd rfl rfl (sw_true rfl rfl rfl (by decide +kernel)) (pi_tup (pe_ix ix_list (pv 1) pe_int (fun _ _ => rfl))) (blkOk_by (own := [("_law_word", 5)]) (N := N_law_right) (sc := defScope s_law_right) (by decide +kernel)) (fun _ _ _ _ _ => (pg_name (i := 5) sc_law_right.nd rfl (Or.inl rfl))) (fun _ _ _ _ _ => (pts_one (pt_cmpR (r := rIn K true) op_notIn_seq (pv 5) (pe_ix (r := rIxL K) ix_list (pv 1) pe_int (fun _ _ => rfl)) (by rfl)))) (fun _ _ _ _ _ => (pv 5)))
      (pss_cons (ps_for PassesOwn.never rfl (pi_range1 (by rfl) T.n_range (pa_cons pe_int pa_nil)) (pg_name (i := 3) sc_law_right.nd rfl (Or.inl rfl))
      (pss_cons (ps_set (i := 4) sc_law_right.nd rfl (Or.inl rfl) (pe_call (ok_open_in T) (hr.mono (by decide)) (by rfl) T.m_open_in T.F_open_in.kp T.b_open_in .nil pass0 (pa_cons (pv 0) pa_nil)))
      (pss_cons (ps_if (PW.pt (pw_or (pt_not (pt_val (pe_callB (id := "isinstance")  call_isi (by rfl) T.n_isinstance (by decide +kernel) (pa_cons (pv 4) (pa_cons (pe_bltn (v := .ty "list") (u := .type "list") (by rfl) T.n_list (by decide +kernel) rfl) pa_nil))))) (pw_or1 (pt_cmpR (op_neD hr.units) (pv 4) (pv 2) (nomark _)))))
      (pss_one (ps_ret pe_bl))
      pss_nil)
      (pss_one (ps_expr (pe_bm PySem.F.plainAttrs_list PySem.F.slot_list_append PySem.F.type_list_append mt_append (pv 4) (pa_cons pe_str pa_nil)))))))
      (pss_one (ps_ret (pe_cmpR (op_eqD hr.units) (pe_callN0 (ok_open_in T) (hr.mono (by decide)) (by rfl) T.m_open_in T.F_open_in.kp T.kb_open_in_0_stand.choose_spec pass0 (pk_cons (pv 0) pk_nil)) (pv 2) (nomark _))))))), ?_⟩
    obtain ⟨dx, bw, bu, bl, bb, hp0, gw, gu, gl, gb⟩ := hp
    obtain ⟨aw, au, al, ab, hL, hw, hu, hl, hb⟩ := hR
    refine ⟨_, rfl, p, _, dx, _, _, rfl, hp0, T.cl_Stand, T.na_Stand_wished, rfl, _, rfl, p, _, dx, _, _, rfl, hp0, T.cl_Stand, T.na_Stand_up, rfl, _, rfl, p, _, dx, _, _, rfl, hp0, T.cl_Stand, T.na_Stand_later, rfl, _, rfl, p, _, dx, _, _, rfl, hp0, T.cl_Stand, T.na_Stand_back, rfl, by show 4 ≤ sizeLine; decide, fun l1 n1 => ?_⟩
    generalize hE1 : upd H l1 _ = H1
    have w1 := new_at hE1
    have s1 := new_same hE1 n1
    refine ⟨_, rfl, neD_quad (SqL.of w1) (s1.seq hL) (tup_same s1 gw) (tup_same s1 gu) (tup_same s1 gl) (tup_same s1 gb) (tup_same s1 hw) (tup_same s1 hu) (tup_same s1 hl) (tup_same s1 hb) hU.wi hU.up hU.la hU.ba ⟨_, rfl, iteF ?_⟩⟩
    -- due
    refine ⟨_, rfl, l, _, _, _, rfl, rfl, s1.seq hL, at0, aw, rfl, ⟨_, tup_same s1 hw⟩, fun D nD => lc_tup (K := K) (a := aw) (xs := s.wished.map V.str) (fun i H' => Same H1 H' ∧ H' D = some (.lst (((s.wished.take i).filter fun x => decide (x ∉ s.up)).map V.str))) ⟨same_upd nD, upd_same⟩
      (fun i H' _ hp => tup_same hp.1 (tup_same s1 hw)) ?_ ?_⟩
    · rintro i y H9 hy ⟨s9, w9⟩
      rw [List.getElem?_map] at hy
      obtain ⟨x, hx, rfl⟩ := Option.map_eq_some_iff.mp hy
      have hi : i < s.wished.length := (List.getElem?_eq_some_iff.mp hx).1
      have s19 := s1.trans s9
      rw [List.take_add_one, hx, Option.toList_some, List.filter_append]
      refine ⟨rfl, ?_⟩
      refine ⟨_, rfl, _, rfl, l, _, _, _, rfl, rfl, s19.seq hL, at1, au, _, rfl, .inr (tup_same s19 hu), rfl, strs_flat s.up, _, rfl, ?_⟩
      rw [inV_str]
      by_cases hin : x ∈ s.up
      · rw [decide_eq_true hin]
        refine iteF ⟨s9, ?_⟩
        rw [List.filter_cons_of_neg (p := fun x => decide (x ∉ s.up)) (by rw [decide_eq_false (fun z => z hin)]; exact Bool.false_ne_true), List.filter_nil, List.append_nil]
        exact w9
      · rw [decide_eq_false hin]
        refine iteT ⟨_, rfl, _, w9, ?_, Same.own (q := D) (H1 := H9) s9 (mut_keep rfl) nD, ?_⟩
        · rw [List.length_map]
          refine Nat.lt_of_le_of_lt (List.length_filter_le _ _) (Nat.lt_of_le_of_lt (List.length_take_le _ _) (small1000 (by omega)))
        · rw [upd_same, List.filter_cons_of_pos (p := fun x => decide (x ∉ s.up)) (decide_eq_true hin), List.map_append]
          rfl
    rintro H2 ⟨s2, w2⟩
    rw [List.length_map, List.take_length] at w2
    have s12 := s1.trans s2
    have S2 : StandAt K H2 p s := ⟨dx, bw, bu, bl, bb, s12 _ _ hp0, tup_same s12 gw, tup_same s12 gu, tup_same s12 gl, tup_same s12 gb⟩
    have okO : ∀ x ∈ openL s, PyData.strOk x = true := fun x hx => hU.wi x ((List.mem_filter.mp hx).1)
    -- for turn in range(2)
    refine ⟨_, rfl, by decide, by decide, for_range (lo := 0) (n := (2 : Int).toNat) (fun i σ H' => Same H2 H' ∧ ∃ y3 y4 y5, σ = [some (.ref p), some (.ref l), some (.ref D), y3, y4, y5]) ⟨Same.refl _, _, _, _, rfl⟩ ?_ ?_⟩
    · rintro i σ H3 hi ⟨s3, y3, y4, y5, rfl⟩
      refine ⟨_, rfl, p, s, rfl, S2.same s3, hw9, fun t H4 nt s4 wt => ?_⟩
      have s34 := s3.trans s4
      refine ⟨_, rfl, _, _, _, _, true, rfl, .ty "list", .base (.lst wt), kit_ty (by decide +kernel), _, rfl, iteF ?_⟩
      refine ⟨_, rfl, _, rfl, neD_strs (xs := openL s) (ys := openL s) (SqL.of wt) (SqL.of (s34 _ _ w2)) okO okO ?_⟩
      rw [decide_eq_true rfl]
      refine ⟨_, rfl, iteF ?_⟩
      refine ⟨_, rfl, .inl ⟨rfl, _, SqL.of wt⟩, t, _, _, rfl, rfl, wt, ?_, Same.own (q := t) s34 (mut_keep rfl) (s3.free nt), _, _, _, rfl⟩
      rw [List.length_map]
      exact Nat.lt_of_le_of_lt (List.length_filter_le _ _) (small1000 (by omega))
    · rintro σ H3 ⟨s3, y3, y4, y5, rfl⟩
      refine ⟨_, rfl, rfl, rfl, p, s, rfl, S2.same s3, hw9, fun t H4 nt s4 wt => ?_⟩
      have s34 := s3.trans s4
      refine ⟨_, rfl, eqD_strsL (xs := openL s) (ys := openL s) (SqL.of wt) (SqL.of (s34 _ _ w2)) okO okO ?_⟩
      rw [decide_eq_true rfl]
      exact q _ (s12.trans s34)

-- SPLIT
/-- what tuple(..) of a list or a tuple comes to -/
abbrev rTupS (K : PySem.W.Frag) : List V → Hp → VK → Prop := fun xs H Q => ∃ p ys, xs = [.ref p] ∧ ((SqL K H p ys ∧ ∀ l, H l = none → Q (.ref l) (upd H l (.tup ys))) ∨ (SqT K H p ys ∧ Q (.ref p) H))
/-- what sorted(..) of a tuple of texts comes to -/
def rSortTS (K : PySem.W.Frag) : List V → Hp → VK → Prop := fun vs H Q => ∃ (a : Addr) (xs : List Str), vs = [.ref a] ∧ SqT K H a (xs.map V.str) ∧ xs.length < 64 ∧
  ∀ p, H p = none → Q (.ref p) (upd H p (.lst ((srt xs).map V.str)))
open PySem.Spec PyProof.Rows in
theorem cr_sortTS {X : Cx} : CallR X (.builtin "sorted") (rSortTS X.K) := fun pins s σ H vs us Q I r h => by
  obtain ⟨a, xs, rfl, tx, few, q⟩ := h
  cases Vals.ref1 r
  obtain ⟨its, rv, ⟨o, ho, hc, n, hd⟩, hz⟩ := I.tuple tx
  have ln : xs.length = its.length := by
    have := rv.length
    rwa [List.length_map] at this
  have room : its.length ≤ sizeLine := small64 (by omega)
  refine Calls.call_function_entry PyProof.Rows.kind_sorted PyProof.Rows.plain_sorted PyProof.Rows.entry_sorted (PyProof.Rows.args_sorted1 _) ?_
  unfold Builtin.«sorted»
  refine wpAny_bind (m := checkCount "sorted" 1 1 _) (wpAny_pure (wpAny_bind (wpAny_collect_seq (A := X.A.in1) a (.inr rfl) ho hc hd (fun hp old => ?_) (by rw [List.size_toArray]; exact room))))
  have I1 : L2.Inv X pins σ H { s with heap := hp } := I.kept old
  refine wpAny_bind (wpAny_newList ?_ (by simpa using room))
  have put : (hp.push (seqObj "list" its.toArray 0)).get? hp.objs.size = some (seqObj "list" its.toArray 0) := Heap.get?_push_size _ rfl
  refine wpAny_bind (wpAny_holding (wpAny_call_entry PyProof.Rows.slot_list_sort ⟨_, put, rfl⟩ PyProof.Rows.entry_list_sort
    (PyProof.Rows.list_sort_treeK PyProof.Rows.strKind_oneLt put rv.strs.keysOf (fun v₁ v₂ rest e => PyProof.Rows.keyKind_strs (by rw [← e]; exact rv.strs)) (by omega) fun st pm so => ⟨_, rfl, ?_⟩) (PyProof.Rows.args_list_sort _)))
  obtain ⟨ys, as, yp, ys'⟩ := PyProof.Rows.sorted_out_str rv.strs pm so
  cases srt_of yp ys'
  obtain ⟨ep, fin⟩ := PyProof.Rows.sortedHeap_at (vs := its) (out := (PyProof.Rows.arrOf st).map (·.2)) put
  refine wpAny_pure ⟨_, rfl, .ref hp.objs.size, upd H hp.objs.size (.lst ((srt xs).map V.str)), I1.laid (t' := s.toks) (fun b u e => ?_) (Nat.le_refl _) ⟨?_, _, ep, vals_of_strs as, fin⟩, rfl, q _ (I1.hok.fresh (Nat.le_refl _))⟩
  · have lt : b < hp.objs.size := Heap.lt_size e
    rw [PyProof.Rows.sortedHeap_old (Nat.ne_of_lt lt) (by rw [size_push']; exact Nat.lt_succ_of_lt lt)]
    exact Heap.get?_push_of_some _ e
  · rw [List.length_map, srt_len]
    exact small64 few

-- SPLIT
/-! ### the law -/
section
variable {H : Hp} {p1 p2 : Addr} {s1 s2 : SF} {Q : VK}
def eqB (s1 s2 : SF) : Bool := decide (s1.wished = s2.wished ∧ s1.up = s2.up ∧ s1.later = s2.later ∧ s1.back = s2.back)
theorem eqS (T : Txt K mg) (h1 : StandAt K H p1 s1) (h2 : StandAt K H p2 s2) (o1 : SStr s1) (o2 : SStr s2) (q : Q (.bl (eqB s1 s2)) H) : UO.rEqO K (He.ga K "Stand") (sp_Stand_eq K) E0 (.ref p1) (.ref p2) H Q := by
  obtain ⟨d1, _, _, _, _, e1, _⟩ := id h1
  obtain ⟨d2, _, _, _, _, e2, _⟩ := id h2
  exact ⟨p1, d1, _, _, rfl, e1, T.ix_Stand.ty T.cl_Stand e2, UO.first_self _ _, p1, s1, _, rfl, h1, o1, .inl ⟨p2, s2, rfl, h2, o2, _, rfl, q⟩⟩
theorem neS (T : Txt K mg) (h1 : StandAt K H p1 s1) (h2 : StandAt K H p2 s2) (o1 : SStr s1) (o2 : SStr s2) (q : Q (.bl (!eqB s1 s2)) H) : UO.rNeO K (He.ga K "Stand") (sp_Stand_eq K) E0 (.ref p1) (.ref p2) H Q := by
  obtain ⟨d1, _, _, _, _, e1, _⟩ := id h1
  obtain ⟨d2, _, _, _, _, e2, _⟩ := id h2
  exact ⟨p1, d1, _, _, rfl, e1, T.ix_Stand.ty T.cl_Stand e2, UO.first_self _ _, p1, s1, _, rfl, h1, o1, .inl ⟨p2, s2, rfl, h2, o2, _, rfl, q⟩⟩
theorem eqOdd (T : Txt K mg) {y : V} {Ty : String} (h1 : StandAt K H p1 s1) (o1 : SStr s1) (pt : UO.plainTy H K y Ty) (q : Q (.bl false) H) : UO.rEqO K (He.ga K "Stand") (sp_Stand_eq K) E0 (.ref p1) y H Q := by
  obtain ⟨d1, _, _, _, _, e1, _⟩ := id h1
  obtain ⟨ty, hT⟩ := UO.plain_ty pt
  exact ⟨p1, d1, _, _, rfl, e1, ty, T.ix_Stand.first hT, p1, s1, y, rfl, h1, o1, .inr ⟨Ty, pt, false, rfl, q⟩⟩
theorem neOdd (T : Txt K mg) {y : V} {Ty : String} (h1 : StandAt K H p1 s1) (o1 : SStr s1) (pt : UO.plainTy H K y Ty) (q : Q (.bl true) H) : UO.rNeO K (He.ga K "Stand") (sp_Stand_eq K) E0 (.ref p1) y H Q := by
  obtain ⟨d1, _, _, _, _, e1, _⟩ := id h1
  obtain ⟨ty, hT⟩ := UO.plain_ty pt
  exact ⟨p1, d1, _, _, rfl, e1, ty, T.ix_Stand.first hT, p1, s1, y, rfl, h1, o1, .inr ⟨Ty, pt, false, rfl, q⟩⟩
theorem oddEq (T : Txt K mg) {y : V} {Ty : String} (h1 : StandAt K H p1 s1) (o1 : SStr s1) (pt : UO.plainTy H K y Ty) (q : Q (.bl false) H) : UO.rEqR K (He.ga K "Stand") (sp_Stand_eq K) E0 y (.ref p1) H Q := by
  obtain ⟨d1, _, _, _, _, e1, _⟩ := id h1
  obtain ⟨ty, hT⟩ := UO.plain_ty pt
  exact ⟨p1, d1, _, Ty, rfl, e1, pt, T.ix_Stand.sub _ hT, p1, s1, y, rfl, h1, o1, .inr ⟨Ty, pt, false, rfl, q⟩⟩
end
theorem cutV_from1 (xs : List Str) : cutV (xs.map V.str) (some 1) none = (xs.drop 1).map V.str := by
  unfold cutV
  rw [show HT.sIx (xs.map V.str).length 0 (some 1) = min 1 (xs.map V.str).length from HT.sIx_nat _ 0 1, HT.sIx_none]
  cases xs with
  | nil => rfl
  | cons x r =>
    rw [List.length_map, List.length_cons, Nat.min_eq_left (by omega), List.map_cons]
    show (r.map V.str).take (r.length + 1 - 1) = r.map V.str
    rw [List.take_of_length_le (by rw [List.length_map]; omega)]
/-- a stand of four rows -/
def SF.of (ys : List (List Str)) : SF := ⟨ys.getD 0 [], ys.getD 1 [], ys.getD 2 [], ys.getD 3 []⟩
theorem eqB_of {xs ys : List (List Str)} (hx : xs.length = 4) (hy : ys.length = 4) : eqB (SF.of xs) (SF.of ys) = decide (xs = ys) := by
  match xs, hx with
  | [a, b, c, d], _ =>
    match ys, hy with
    | [a', b', c', d'], _ =>
      refine decide_eq_decide.mpr ⟨?_, fun e => by cases e; exact ⟨rfl, rfl, rfl, rfl⟩⟩
      rintro ⟨e1, e2, e3, e4⟩
      rw [show a = a' from e1, show b = b' from e2, show c = c' from e3, show d = d' from e4]
abbrev refsOf (rs : List (Addr × List Str)) : List V := rs.map fun r => .ref r.1
theorem rows_of {H : Hp} {l : Addr} {rs : List (Addr × List Str)} (h4 : rs.length = 4) (hl : SqL K H l (refsOf rs)) (hr : ∀ r ∈ rs, SqT K H r.1 (r.2.map V.str)) : RowsAt K H l (SF.of (rs.map (·.2))) := by
  match rs, h4 with
  | [a, b, c, d], _ => exact ⟨a.1, b.1, c.1, d.1, hl, hr a (by simp), hr b (by simp), hr c (by simp), hr d (by simp)⟩
theorem ok_of {rs : List (Addr × List Str)} (h4 : rs.length = 4) (hr : ∀ r ∈ rs, ∀ y ∈ r.2, PyData.strOk y = true) : SStr (SF.of (rs.map (·.2))) := by
  match rs, h4 with
  | [a, b, c, d], _ =>
    intro x hx
    simp only [List.mem_append] at hx
    rcases hx with ((hx | hx) | hx) | hx
    · exact hr a (by simp) x hx
    · exact hr b (by simp) x hx
    · exact hr c (by simp) x hx
    · exact hr d (by simp) x hx
theorem few_of {rs : List (Addr × List Str)} (h4 : rs.length = 4) (hr : ∀ r ∈ rs, r.2.length ≤ 10) : (SF.of (rs.map (·.2))).wished.length ≤ 100 := by
  match rs, h4 with
  | [a, b, c, d], _ =>
    have := hr a (by simp)
    show a.2.length ≤ 100
    omega
def sp_law (K : PySem.W.Frag) : Sp := fun vs H Q _ => ∃ (a : Addr) (ns : List Int), vs = [.ref a] ∧ SqL K H a (ns.map V.int) ∧ ns.length ≤ 63 ∧ ∀ H', Q (.bl true) H'
theorem ok_law (T : Txt K mg) : FnOk P w K mg base CX0 11 (He.fAd K ("law", none)) T.d_law ["_law_script"] (sp_law K) := by
  refine T.F_law.ok sc_law (fun vs H Q E h => ?_) (fun cdv A outer s H vs Q E hr h => ?_)
  · obtain ⟨a, ns, rfl, _⟩ := h
    rfl
  · obtain ⟨a, ns, rfl, hS, hl, q⟩ := h
    refine ⟨_, PSs.nox (pss_cons (ps_for PassesOwn.never rfl (pi_range1 (by rfl) T.n_range (pa_cons (pe_callB (id := "max")  (call_max2 rfl) (by rfl) T.n_max (by decide +kernel) (pa_cons pe_int (pa_cons (pe_callB (id := "min")  (call_min2 rfl) (by rfl) T.n_min (by decide +kernel) (pa_cons pe_int (pa_cons (pe_callB (id := "len")  call_len_seq (by rfl) T.n_len (by decide +kernel) (pa_cons (pv 0) pa_nil)) pa_nil))) pa_nil))) pa_nil)) (pg_name (i := 1) sc_law.nd rfl (Or.inl rfl))
      (pss_cons (ps_set (i := 2) sc_law.nd rfl (Or.inr rfl) (pe_call (ok_law_bag T) (hr.mono (by decide)) (by rfl) T.m_law_bag T.F_law_bag.kp T.b_law_bag .nil pass0 (pa_cons (pv 0) (pa_cons (pv 1) pa_nil))))
      (pss_cons (ps_set (i := 3) sc_law.nd rfl (Or.inr rfl) (pe_call (ok_law_names T) (hr.mono (by decide)) (by rfl) T.m_law_names T.F_law_names.kp T.b_law_names .nil pass0 (pa_cons (pv 2) (pa_cons (pe_op op_add pe_int (pe_call (ok_law_take T) (hr.mono (by decide)) (by rfl) T.m_law_take T.F_law_take.kp T.b_law_take .nil pass0 (pa_cons (pv 2) (pa_cons pe_int pa_nil)))) pa_nil))))
      (pss_cons (ps_setLc (i := 4) (own := [("_law_turn", 11)]) (by rfl) sc_law.nd rfl rfl (sw_true rfl rfl rfl (by decide +kernel)) (pi_range1 (by rfl) T.n_range (pa_cons pe_int pa_nil)) (blkOk_by (own := [("_law_turn", 11)]) (N := N_law) (sc := defScope s_law) (by decide +kernel)) (fun _ _ _ _ _ => (pg_name (i := 11) sc_law.nd rfl (Or.inl rfl))) (fun _ _ _ _ _ => pts_nil) (fun _ _ _ _ _ => (pe_callTy (T := "tuple")  (r := rTupS K) call_tuple_of (by rfl) T.n_tuple (by decide +kernel) (pa_cons (pe_callB (id := "sorted")  (r := rSortTS K) cr_sortTS (by rfl) T.n_sorted (by decide +kernel) (pa_cons (pe_call (ok_law_some T) (hr.mono (by decide)) (by rfl) T.m_law_some T.F_law_some.kp T.b_law_some .nil pass0 (pa_cons (pv 2) (pa_cons (pv 3) (pa_cons (pe_ix (r := rIxL K) ix_list (pe_lst (pa_cons pe_int (pa_cons pe_int (pa_cons pe_int pa_nil)))) (pe_call (ok_law_take T) (hr.mono (by decide)) (by rfl) T.m_law_take T.F_law_take.kp T.b_law_take .nil pass0 (pa_cons (pv 2) (pa_cons pe_int pa_nil))) (fun _ _ => rfl)) pa_nil)))) pa_nil)) pa_nil))))
      (pss_cons (ps_if (pt_not (pt_val (pe_call (ok_law_right T) (hr.mono (by decide)) (by rfl) T.m_law_right T.F_law_right.kp T.b_law_right .nil pass0 (pa_cons (pe_makeK0 T.mk_Stand (ok_Stand_init T) (hr.mono (by decide)) (by rfl) T.m_Stand T.kb_Stand_init_1_none.choose_spec pass0 pk_nil) (pa_cons (pe_lst (pa_cons (pe_tup pa_nil) (pa_cons (pe_tup pa_nil) (pa_cons (pe_tup pa_nil) (pa_cons (pe_tup pa_nil) pa_nil))))) pa_nil)))))
      (pss_one (ps_ret pe_bl))
      pss_nil)
      (pss_cons (ps_par (by rfl) sc_law.nd (i := 5) (j := 6) rfl rfl (by decide) rfl rfl (pa_cons (pe_call (ok_law_made T) (hr.mono (by decide)) (by rfl) T.m_law_made T.F_law_made.kp T.b_law_made .nil pass0 (pa_cons pe_int (pa_cons (pv 4) pa_nil))) (pa_cons (pe_call (ok_law_made T) (hr.mono (by decide)) (by rfl) T.m_law_made T.F_law_made.kp T.b_law_made .nil pass0 (pa_cons pe_int (pa_cons (pv 4) pa_nil))) pa_nil)) (by rfl))
      (pss_cons (ps_set (i := 7) sc_law.nd rfl (Or.inl rfl) (pe_call (ok_law_take T) (hr.mono (by decide)) (by rfl) T.m_law_take T.F_law_take.kp T.b_law_take .nil pass0 (pa_cons (pv 2) (pa_cons pe_int pa_nil))))
      (pss_cons (ps_set (i := 8) sc_law.nd rfl (Or.inl rfl) (pe_callTy (T := "list")  call_list_of (by rfl) T.n_list (by decide +kernel) (pa_cons (pv 4) pa_nil)))
      (pss_cons (ps_asg (pe_mid (pe_ifExp (pt_cmpR op_gt (pe_callB (id := "len")  call_len_seq (by rfl) T.n_len (by decide +kernel) (pa_cons (pe_ix ix_list (pv 4) (pv 7) (fun _ _ => rfl)) pa_nil)) pe_int (nomark _)) (pe_slice sl_tupA (pe_ix ix_list (pv 4) (pv 7) (fun _ _ => rfl)) (po_some pe_int) po_none) (pe_tup (pa_cons (pe_ix ix_list (pv 3) pe_int (fun _ _ => rfl)) pa_nil)))) (pg_sub (pv 8) (pv 7) set_list))
      (pss_cons (ps_set (i := 9) sc_law.nd rfl (Or.inl rfl) (pe_call (ok_law_made T) (hr.mono (by decide)) (by rfl) T.m_law_made T.F_law_made.kp T.b_law_made .nil pass0 (pa_cons pe_int (pa_cons (pv 8) pa_nil))))
      (pss_cons (ps_set (i := 10) sc_law.nd rfl (Or.inl rfl) (pe_ix ix_list (pe_lst (pa_cons pe_non (pa_cons (pv 4) (pa_cons (pe_callTy (T := "tuple")  call_tuple_of (by rfl) T.n_tuple (by decide +kernel) (pa_cons (pv 4) pa_nil)) (pa_cons (pe_ix ix_list (pv 4) pe_int (fun _ _ => rfl)) (pa_cons pe_str (pa_cons pe_int pa_nil))))))) (pe_call (ok_law_take T) (hr.mono (by decide)) (by rfl) T.m_law_take T.F_law_take.kp T.b_law_take .nil pass0 (pa_cons (pv 2) (pa_cons pe_int pa_nil))) (fun _ _ => rfl)))
      (pss_cons (ps_if (pt_cmpR (op_neD hr.units) (pe_lst (pa_cons (pe_cmpR (UO.op_rc (UO.rc_left (ok_Stand_eq T) T.me_Stand_eq.at_ T.me_Stand_eq.fn T.b_Stand_eq pass0) (hr.mono (by decide))) (pv 5) (pv 6) (nomark _)) (pa_cons (pe_cmpR (UO.op_rc (UO.rc_left (ok_Stand_eq T) T.me_Stand_eq.at_ T.me_Stand_eq.fn T.b_Stand_eq pass0) (hr.mono (by decide))) (pv 6) (pv 5) (nomark _)) (pa_cons (pe_cmpR (UO.op_in1 (UO.RcO.ap (UO.rc_left (ok_Stand_eq T) T.me_Stand_eq.at_ T.me_Stand_eq.fn T.b_Stand_eq pass0)) (hr.mono (by decide))) (pv 5) (pe_lst (pa_cons (pv 6) pa_nil)) (by rfl)) (pa_cons (pe_cmpR (UO.op_neO (ok_Stand_eq T) T.me_Stand_eq.at_ T.me_Stand_eq.fn T.b_Stand_eq pass0 T.ix_Stand.ne T.ix_Stand.mro (hr.mono (by decide))) (pv 5) (pv 6) (nomark _)) pa_nil))))) (pe_lst (pa_cons pe_bl (pa_cons pe_bl (pa_cons pe_bl (pa_cons pe_bl pa_nil))))) (nomark _))
      (pss_one (ps_ret pe_bl))
      pss_nil)
      (pss_cons (ps_if (pt_cmpR (op_neD hr.units) (pe_lst (pa_cons (pe_cmpR (UO.op_rc (UO.rc_left (ok_Stand_eq T) T.me_Stand_eq.at_ T.me_Stand_eq.fn T.b_Stand_eq pass0) (hr.mono (by decide))) (pv 5) (pv 9) (nomark _)) (pa_cons (pe_cmpR (UO.op_rc (UO.rc_left (ok_Stand_eq T) T.me_Stand_eq.at_ T.me_Stand_eq.fn T.b_Stand_eq pass0) (hr.mono (by decide))) (pv 9) (pv 5) (nomark _)) (pa_cons (pe_cmpR (UO.op_in1 (UO.RcO.ap (UO.rc_left (ok_Stand_eq T) T.me_Stand_eq.at_ T.me_Stand_eq.fn T.b_Stand_eq pass0)) (hr.mono (by decide))) (pv 5) (pe_lst (pa_cons (pv 9) pa_nil)) (by rfl)) (pa_cons (pe_cmpR (UO.op_neO (ok_Stand_eq T) T.me_Stand_eq.at_ T.me_Stand_eq.fn T.b_Stand_eq pass0 T.ix_Stand.ne T.ix_Stand.mro (hr.mono (by decide))) (pv 9) (pv 6) (nomark _)) pa_nil))))) (pe_lst (pa_cons pe_bl (pa_cons pe_bl (pa_cons pe_bl (pa_cons pe_bl pa_nil))))) (nomark _))
      (pss_one (ps_ret pe_bl))
      pss_nil)
      (pss_cons (ps_if (PW.pt (pw_or (pt_cmpR (UO.op_rc (UO.rc_left (ok_Stand_eq T) T.me_Stand_eq.at_ T.me_Stand_eq.fn T.b_Stand_eq pass0) (hr.mono (by decide))) (pv 5) (pv 10) (nomark _)) (pw_or (pt_cmpR (UO.op_rc (UO.rc_right (ok_Stand_eq T) T.me_Stand_eq.at_ T.me_Stand_eq.fn T.b_Stand_eq pass0) (hr.mono (by decide))) (pv 10) (pv 5) (nomark _)) (pw_or1 (pt_not (pt_cmpR (UO.op_neO (ok_Stand_eq T) T.me_Stand_eq.at_ T.me_Stand_eq.fn T.b_Stand_eq pass0 T.ix_Stand.ne T.ix_Stand.mro (hr.mono (by decide))) (pv 5) (pv 10) (nomark _)))))))
      (pss_one (ps_ret pe_bl))
      pss_nil)
      (pss_one (ps_if (PW.pt (pw_or (pt_not (pt_val (pe_call (ok_law_right T) (hr.mono (by decide)) (by rfl) T.m_law_right T.F_law_right.kp T.b_law_right .nil pass0 (pa_cons (pv 5) (pa_cons (pv 4) pa_nil))))) (pw_or (pt_not (pt_val (pe_call (ok_law_right T) (hr.mono (by decide)) (by rfl) T.m_law_right T.F_law_right.kp T.b_law_right .nil pass0 (pa_cons (pv 6) (pa_cons (pv 4) pa_nil))))) (pw_or1 (pt_not (pt_val (pe_call (ok_law_right T) (hr.mono (by decide)) (by rfl) T.m_law_right T.F_law_right.kp T.b_law_right .nil pass0 (pa_cons (pv 9) (pa_cons (pv 8) pa_nil)))))))))
      (pss_one (ps_ret pe_bl))
      pss_nil))))))))))))))))
      (pss_one (ps_ret pe_bl))), ?_⟩
    refine ⟨_, rfl, a, _, rfl, .inl hS, _, _, rfl, _, _, rfl, _, rfl, ?_, ?_, for_range (lo := 0) (fun i σ H' => Same H H' ∧ ∃ y1 y2 y3 y4 y5 y6 y7 y8 y9 y10 y11, σ = [some (.ref a), y1, y2, y3, y4, y5, y6, y7, y8, y9, y10, y11]) ⟨Same.refl H, _, _, _, _, _, _, _, _, _, _, _, rfl⟩ ?_ ?_⟩
    · split <;> split <;> omega
    · split <;> split <;> omega
    · rintro i σ H1 hi ⟨s1, y1, y2, y3, y4, y5, y6, y7, y8, y9, y10, y11, rfl⟩
      have hi9 : i < 8 := by
        rw [List.length_map] at hi
        revert hi
        split <;> split <;> omega
      have hS1 := s1.seq hS
      refine ⟨_, rfl, _, rfl, a, ns, i, by rw [Int.zero_add]; rfl, hS1, by omega, fun p H2 np s2 B2 => ?_⟩
      have npH : H p = none := s1.free np
      -- words
      refine ⟨_, rfl, _, rfl, ?_⟩
      refine take_of (z := 10) B2 (by decide) (by decide) (by decide) fun r3 H3 a3 b3 B3 k3 => ?_
      obtain ⟨m, rfl⟩ := Int.eq_ofNat_of_zero_le a3
      refine ⟨_, _, rfl, rfl, p, 1 + m, 0 + 1, by rw [Int.natCast_add]; rfl, B3, by decide, by omega, fun xs l H4 xl xn xm nl wl B4 k4 => ?_⟩
      have npl : p ≠ l := B3.ne nl
      have S4 : Same H H4 := Same.own (s1.trans s2) (k3.trans k4) npH
      -- rows
      refine ⟨_, rfl, by decide, by decide, fun D nD => ?_⟩
      have npD : p ≠ D := B4.ne nD
      refine lc_range (lo := 0) (n := (4 : Int).toNat) (fun j H' => Bag (200 + 20 * j) H' p ∧ Kp p H4 H' ∧ ∃ rs : List (Addr × List Str), rs.length = j ∧ H' D = some (.lst (refsOf rs)) ∧ ∀ r ∈ rs, H' r.1 = some (.tup (r.2.map V.str)) ∧ r.2.length ≤ 10 ∧ ∀ y ∈ r.2, Nm y)
        ⟨(B4.same (same_upd nD)).le (by omega), Kp.of (same_upd nD), [], rfl, upd_same, fun r h => nomatch h⟩ ?_ ?_
      · rintro j H5 hj ⟨B5, k5, rs, hl5, w5, hrs⟩
        have hj4 : j < 4 := hj
        refine ⟨rfl, yes_of (iteT ?_)⟩
        refine ⟨_, rfl, _, rfl, by show 3 ≤ sizeLine; decide, fun l6 n6 => ⟨_, rfl, ?_⟩⟩
        refine pick_menu [.int 0, .int 3, .int 10] B5 (by omega) n6 rfl (by show 0 < 3; decide) (by show 3 < 1000; decide) fun z H6 hz B6 k6 => ?_
        obtain ⟨c, rfl, hc⟩ : ∃ c : Nat, z = .int c ∧ c ≤ 10 := by
          simp only [List.mem_cons, List.not_mem_nil, or_false] at hz
          rcases hz with rfl | rfl | rfl
          · exact ⟨0, rfl, by decide⟩
          · exact ⟨3, rfl, by decide⟩
          · exact ⟨10, rfl, by decide⟩
        have wl6 := (k5.trans k6) _ _ wl npl.symm
        refine ⟨p, l, c, _, xs, rfl, B6, by omega, by omega, SqL.of wl6, npl.symm, xn, by omega, xm, fun ys t H7 yn ym yl nt wt B7 k7 => ?_⟩
        refine ⟨t, ys, rfl, SqT.of wt, by omega, fun g ng => ?_⟩
        generalize hE8 : upd H7 g _ = H8
        have w8 := new_at hE8
        have s8 := new_same hE8 ng
        refine ⟨g, _, rfl, .inl ⟨SqL.of w8, fun e ne => ?_⟩⟩
        generalize hE9 : upd H8 e _ = H9
        have w9 : H9 e = some (.tup ((srt ys).map V.str)) := new_at hE9
        have s79 := s8.trans (new_same hE9 ne)
        have k59 : Kp p H5 H9 := (k6.trans k7).same s79
        have wD9 := k59 _ _ w5 npD.symm
        have B9 := B7.same s79
        have nDH : H4 D = none := nD
        have ntup : ∀ r ∈ rs, H9 r.1 = some (.tup (r.2.map V.str)) := fun r hr => by
          refine k59 _ _ (hrs r hr).1 fun e' => ?_
          have := (hrs r hr).1
          rw [e'] at this
          exact B5.notTup _ this
        have keepT : ∀ b xs, H9 b = some (.tup xs) → upd H9 D (.lst (refsOf rs ++ [.ref e])) b = some (.tup xs) := fun b xs h => mut_keep rfl _ _ h fun e' => by
          rw [e', wD9] at h
          cases h
        refine ⟨_, wD9, by rw [List.length_map]; exact small1000 (by omega), ?_, ?_, rs ++ [(e, srt ys)], by rw [List.length_append, hl5]; rfl, ?_, fun r hr => ?_⟩
        · exact (B9.keep (mut_keep rfl) npD).le (by omega)
        · exact (k5.trans k59).own (mut_keep rfl) nDH
        · rw [upd_same]
          unfold refsOf
          rw [List.map_append]
          rfl
        · rcases List.mem_append.mp hr with hr | hr
          · exact ⟨keepT _ _ (ntup r hr), (hrs r hr).2⟩
          · rw [List.mem_singleton.mp hr]
            refine ⟨keepT _ _ w9, by rw [srt_len]; omega, fun y hy => xm y (ym y (srt_mem.mp hy))⟩
      · rintro H5 ⟨B5, k5, rs, hl5, w5, hrs⟩
        have rl : rs.length = 4 := hl5
        have S5 : Same H H5 := Same.own S4 k5 npH
        have nDH : H D = none := S4.free nD
        have hT5 : ∀ r ∈ rs, SqT K H5 r.1 (r.2.map V.str) := fun r hr => SqT.of (hrs r hr).1
        have okR : ∀ r ∈ rs, ∀ y ∈ r.2, PyData.strOk y = true := fun r hr y hy => ((hrs r hr).2.2 y hy).ok
        have few : ∀ r ∈ rs, r.2.length ≤ 10 := fun r hr => (hrs r hr).2.1
        obtain ⟨s, hs⟩ : ∃ s, SF.of (rs.map (·.2)) = s := ⟨_, rfl⟩
        have R5 : RowsAt K H5 D s := hs ▸ rows_of rl (SqL.of w5) hT5
        have okS : SStr s := hs ▸ ok_of rl okR
        have fewS : s.wished.length ≤ 100 := hs ▸ few_of rl few
        -- if not right(Stand(), ..)
        refine ⟨rfl, rfl, fun pa da npa nda nea => ?_⟩
        refine ⟨pa, da, _, _, _, _, rfl, upd_same, fun H6 wpa kpa => ⟨rfl, ?_⟩⟩
        have s6 : Same H5 H6 := Same.made npa nda fun b o e n => kpa b o e n
        refine ⟨by show 0 ≤ sizeLine; decide, fun e1 ne1 => ?_⟩
        generalize hE7 : upd H6 e1 _ = H7
        have we1 : H7 e1 = some (.tup (([] : List Str).map V.str)) := new_at hE7
        have s7 := new_same hE7 ne1
        refine ⟨by show 0 ≤ sizeLine; decide, fun e2 ne2 => ?_⟩
        generalize hE8 : upd H7 e2 _ = H8
        have we2 : H8 e2 = some (.tup (([] : List Str).map V.str)) := new_at hE8
        have s8 := new_same hE8 ne2
        refine ⟨by show 0 ≤ sizeLine; decide, fun e3 ne3 => ?_⟩
        generalize hE9 : upd H8 e3 _ = H9
        have we3 : H9 e3 = some (.tup (([] : List Str).map V.str)) := new_at hE9
        have s9 := new_same hE9 ne3
        refine ⟨by show 0 ≤ sizeLine; decide, fun e4 ne4 => ?_⟩
        generalize hE10 : upd H9 e4 _ = H10
        have we4 : H10 e4 = some (.tup (([] : List Str).map V.str)) := new_at hE10
        have s10 := new_same hE10 ne4
        refine ⟨by show 4 ≤ sizeLine; decide, fun e5 ne5 => ?_⟩
        generalize hE11 : upd H10 e5 _ = H11
        have we5 := new_at hE11
        have s11 := new_same hE11 ne5
        have s611 : Same H6 H11 := (((s7.trans s8).trans s9).trans s10).trans s11
        refine ⟨pa, e5, ⟨[], [], [], []⟩, rfl, ⟨da, _, _, _, _, s611 _ _ wpa, T.e0_Stand_init_wished H11, T.e0_Stand_init_up H11, T.e0_Stand_init_later H11, T.e0_Stand_init_back H11⟩, ⟨e1, e2, e3, e4, SqL.of we5, SqT.of (s11 _ _ (s10 _ _ (s9 _ _ (s8 _ _ we1)))), SqT.of (s11 _ _ (s10 _ _ (s9 _ _ we2))), SqT.of (s11 _ _ (s10 _ _ we3)), SqT.of (s11 _ _ we4)⟩, (fun x hx => nomatch hx), Nat.zero_le _, fun H12 s12 => ⟨_, rfl, iteF ?_⟩⟩
        have s512 : Same H5 H12 := (s6.trans s611).trans s12
        clear s6 s7 s8 s9 s10 s11 s611 s12 we1 we2 we3 we4 we5
        have keepR : ∀ {H H' : Hp}, Same H H' → RowsAt K H D s → RowsAt K H' D s := fun e h => by
          obtain ⟨w, u, x, b, h0, h1, h2, h3, h4⟩ := h
          exact ⟨w, u, x, b, e.seq h0, tup_same e h1, tup_same e h2, tup_same e h3, tup_same e h4⟩
        have R12 := keepR s512 R5
        -- one, other
        refine ⟨_, rfl, 0, D, s, rfl, R12, okS, fun p1 H13 n13 s13 A1 => ⟨_, rfl, 1, D, s, rfl, keepR s13 R12, okS, fun p2 H14 n14 s14 A2 => ⟨_, _, rfl, ?_⟩⟩⟩
        have s514 : Same H5 H14 := (s512.trans s13).trans s14
        have B14 := B5.same s514
        have n12 : p1 ≠ p2 := by
          obtain ⟨d1, _, _, _, _, e1, _⟩ := A1
          exact ne_some e1 n14
        -- at
        refine ⟨_, rfl, ?_⟩
        refine take_of (z := 4) B14 (by decide) (by decide) (by decide) fun r H15 r0 r1 B15 k15 => ?_
        obtain ⟨j, rfl⟩ := Int.eq_ofNat_of_zero_le r0
        have hj : j < 4 := by omega
        have k515 : Kp p H5 H15 := (Kp.of s514).trans k15
        have wD15 := k515 _ _ w5 npD.symm
        have hT15 : ∀ r ∈ rs, SqT K H15 r.1 (r.2.map V.str) := fun r hr => k515.tup B5.notTp (hT5 r hr)
        have A1' := (A1.same s14).keep k15 B14
        have A2' := A2.keep k15 B14
        have wl15 := (k5.trans k515) _ _ wl npl.symm
        -- bent = list(rows)
        refine ⟨_, rfl, D, _, rfl, .inl (SqL.of wD15), fun b nb => ?_⟩
        generalize hE16 : upd H15 b _ = H16
        have wb16 := new_at hE16
        have s16 := new_same hE16 nb
        obtain ⟨⟨c, cs⟩, hcj⟩ : ∃ r, rs[j]? = some r := ⟨_, List.getElem?_eq_getElem (by omega)⟩
        have hcm : (c, cs) ∈ rs := List.mem_of_getElem? hcj
        have hix : atI (refsOf rs) (j : Int) = some (.ref c) := atI_nat (by unfold refsOf; rw [List.getElem?_map, hcj]; rfl)
        have hc16 : SqT K H16 c (cs.map V.str) := tup_same s16 (hT15 _ hcm)
        have wD16 := s16 _ _ wD15
        refine ⟨fun v H' => Same H16 H' ∧ ∃ (e : Addr) (es : List Str), v = .ref e ∧ SqT K H' e (es.map V.str) ∧ es ≠ cs ∧ (∀ y ∈ es, PyData.strOk y = true) ∧ es.length ≤ 10, ?_, ?_⟩
        · refine ⟨_, rfl, _, rfl, D, _, _, _, rfl, rfl, SqL.of wD16, hix, c, _, rfl, .inr hc16, _, _, rfl, rfl, _, rfl, ?_⟩
          rw [List.length_map]
          refine ite2 (fun h0 => ?_) (fun h0 => ?_)
          · have h0' : cs ≠ [] := fun e => by
              rw [e] at h0
              cases h0
            refine ⟨_, rfl, _, rfl, D, _, _, _, rfl, rfl, SqL.of wD16, hix, _, rfl, ?_⟩
            have dn : cs.drop 1 ≠ cs := fun e' => by
              have := congrArg List.length e'
              rw [List.length_drop] at this
              have := List.length_pos_iff.mpr h0'
              omega
            have dl : (cs.drop 1).length ≤ 10 := by
              have : cs.length ≤ 10 := few _ hcm
              rw [List.length_drop]
              omega
            unfold tNoPart
            exact slA hc16 fun e H' s' he => ⟨s', e, cs.drop 1, rfl, by rw [cutV_from1] at he; exact he, dn, fun y hy => okR _ hcm y (List.mem_of_mem_drop hy), dl⟩
          · have h0' : cs = [] := by
              rcases cs with _ | ⟨y, ys⟩
              · rfl
              · exact absurd (decide_eq_true (by show (0 : Int) < ((ys.length + 1 : Nat) : Int); omega)) h0
            obtain ⟨x0, hx0⟩ : ∃ x0, xs[0]? = some x0 := ⟨_, List.getElem?_eq_getElem (by omega)⟩
            have hx0m : x0 ∈ xs := List.mem_of_getElem? hx0
            refine ⟨_, rfl, l, _, _, _, rfl, rfl, SqL.of (s16 _ _ wl15), atI_nat (j := 0) (v := .str x0) (by rw [List.getElem?_map, hx0]; rfl), by show 1 ≤ sizeLine; decide, fun e ne => ?_⟩
            generalize hE : upd H16 e _ = H17
            have w17 : H17 e = some (.tup ([x0].map V.str)) := new_at hE
            refine ⟨new_same hE ne, e, [x0], rfl, SqT.of w17, by rw [h0']; exact List.cons_ne_nil _ _, fun y hy => ?_, by show 1 ≤ 10; decide⟩
            rw [List.mem_singleton.mp hy]
            exact (xm x0 hx0m).ok
        rintro v H17 ⟨s17, e, es, rfl, he17, hne, okE, lenE⟩
        have wb17 := s17 _ _ wb16
        refine ⟨_, rfl, _, rfl, b, _, _, j, rfl, rfl, wb17, ?_, ?_⟩
        · unfold ixN refsOf
          rw [List.length_map, rl, if_pos (by omega), if_pos (by omega)]
          rfl
        generalize hE18 : upd H17 b _ = H18
        have wb18 : H18 b = some (.lst (refsOf (rs.set j (e, es)))) := by
          have := new_at hE18
          rw [this]
          unfold refsOf
          rw [List.map_set]
        have m18 := mut_keep hE18
        have S18 : Same H15 H18 := Same.own (s16.trans s17) m18 nb
        have he18 : SqT K H18 e (es.map V.str) := m18.tup (NotTp.lst wb17) he17
        have B18 := B15.same S18
        obtain ⟨rs', hrs'⟩ : ∃ rs', rs.set j (e, es) = rs' := ⟨_, rfl⟩
        rw [hrs'] at wb18
        have rl' : rs'.length = 4 := by rw [← hrs', List.length_set]; exact rl
        have mem' : ∀ r ∈ rs', r ∈ rs ∨ r = (e, es) := fun r hr => by
          rw [← hrs'] at hr
          exact List.mem_or_eq_of_mem_set hr
        have hT18 : ∀ r ∈ rs', SqT K H18 r.1 (r.2.map V.str) := fun r hr => by
          rcases mem' r hr with h | rfl
          · exact tup_same S18 (hT15 r h)
          · exact he18
        have okR' : ∀ r ∈ rs', ∀ y ∈ r.2, PyData.strOk y = true := fun r hr => by
          rcases mem' r hr with h | rfl
          · exact okR r h
          · exact okE
        have few' : ∀ r ∈ rs', r.2.length ≤ 10 := fun r hr => by
          rcases mem' r hr with h | rfl
          · exact few r h
          · exact lenE
        have hdiff : rs.map (·.2) ≠ rs'.map (·.2) := fun e' => by
          have h1 := congrArg (·[j]?) e'
          simp only [List.getElem?_map, hcj, ← hrs', List.getElem?_set_self (show j < rs.length by omega)] at h1
          exact hne (Option.some.inj h1).symm
        obtain ⟨s', hs'⟩ : ∃ s', SF.of (rs'.map (·.2)) = s' := ⟨_, rfl⟩
        have R18' : RowsAt K H18 b s' := hs' ▸ rows_of rl' (SqL.of wb18) hT18
        have okS' : SStr s' := hs' ▸ ok_of rl' okR'
        have fewS' : s'.wished.length ≤ 100 := hs' ▸ few_of rl' few'
        have eT : eqB s s = true := decide_eq_true ⟨rfl, rfl, rfl, rfl⟩
        have eN : eqB s s' = false := by
          rw [← hs, ← hs', eqB_of (by rw [List.length_map]; exact rl) (by rw [List.length_map]; exact rl')]
          exact decide_eq_false hdiff
        have eN' : eqB s' s = false := by
          rw [← hs, ← hs', eqB_of (by rw [List.length_map]; exact rl') (by rw [List.length_map]; exact rl)]
          exact decide_eq_false fun z => hdiff z.symm
        -- last = made(0, bent)
        refine ⟨_, rfl, 0, b, s', rfl, R18', okS', fun p3 H19 n19 s19 A3 => ?_⟩
        have s1519 := S18.trans s19
        have wD19 := s1519 _ _ wD15
        have B19 := B18.same s19
        -- odd
        refine ⟨_, rfl, _, rfl, D, _, rfl, .inl ⟨SqL.of wD19, fun t nt => ?_⟩⟩
        generalize hE20 : upd H19 t _ = H20
        have wt20 := new_at hE20
        have s20 := new_same hE20 nt
        obtain ⟨⟨f, fs⟩, hf⟩ : ∃ r, rs[0]? = some r := ⟨_, List.getElem?_eq_getElem (by omega)⟩
        have hfm : (f, fs) ∈ rs := List.mem_of_getElem? hf
        have wD20 := s20 _ _ wD19
        refine ⟨_, rfl, D, _, _, _, rfl, rfl, SqL.of wD20, atI_nat (j := 0) (v := .ref f) (by unfold refsOf; rw [List.getElem?_map, hf]; rfl), by show 6 ≤ sizeLine; decide, fun l6 n6 => ⟨_, rfl, ?_⟩⟩
        have B20 := B19.same s20
        have npt : t ≠ p := (B19.ne nt).symm
        refine pick_menu [.non, .ref D, .ref t, .ref f, .str "Stand", .int 0] B20 (by decide) n6 rfl (by show 0 < 6; decide) (by show 6 < 1000; decide) fun odd H21 hodd B21 k21 => ?_
        have s1520 := s1519.trans s20
        have hOdd : ∃ Ty, UO.plainTy H21 K odd Ty := by
          simp only [List.mem_cons, List.not_mem_nil, or_false] at hodd
          rcases hodd with rfl | rfl | rfl | rfl | rfl | rfl
          · exact ⟨"NoneType", rfl⟩
          · exact ⟨"list", .inl ⟨rfl, _, SqL.of (k21 _ _ wD20 npD.symm)⟩⟩
          · exact ⟨"tuple", .inr ⟨rfl, _, SqT.of (k21 _ _ wt20 npt)⟩⟩
          · exact ⟨"tuple", .inr ⟨rfl, _, k21.tup B20.notTp (tup_same s1520 (hT15 _ hfm))⟩⟩
          · exact ⟨"str", rfl⟩
          · exact ⟨"int", rfl⟩
        obtain ⟨Ty, pt⟩ := hOdd
        have C1 := (A1'.same s1520).keep k21 B20
        have C2 := (A2'.same s1520).keep k21 B20
        have C3 := (A3.same s20).keep k21 B20
        have n13' : p1 ≠ p3 := by
          obtain ⟨d1, _, _, _, _, e1, _⟩ := A1'.same S18
          exact ne_some e1 n19
        have flat4 : ∀ b1 b2 b3 b4 : Bool, ∀ v ∈ [V.bl b1, V.bl b2, V.bl b3, V.bl b4], flatN v = true := fun b1 b2 b3 b4 v hv => by
          simp only [List.mem_cons, List.not_mem_nil, or_false] at hv
          rcases hv with rfl | rfl | rfl | rfl <;> rfl
        -- the equal ones
        refine ⟨_, rfl, _, rfl, eqS T C1 C2 okS okS ⟨_, rfl, _, rfl, eqS T C2 C1 okS okS ⟨_, rfl, _, rfl, by show 1 ≤ sizeLine; decide, fun l7 m7 => ?_⟩⟩⟩
        generalize hE22 : upd H21 l7 _ = H22
        have w22 := new_at hE22
        have s22 := new_same hE22 m7
        refine ⟨l7, _, rfl, w22, n12.symm, eqS T (C2.same s22) (C1.same s22) okS okS ⟨fun _ _ h => h, ?_⟩⟩
        refine ⟨_, rfl, _, rfl, neS T (C1.same s22) (C2.same s22) okS okS ⟨by show 4 ≤ sizeLine; decide, fun l8 m8 => ?_⟩⟩
        rw [eT]
        generalize hE23 : upd H22 l8 _ = H23
        have w23 := new_at hE23
        have s23 := new_same hE23 m8
        refine ⟨by show 4 ≤ sizeLine; decide, fun l9 m9 => ?_⟩
        generalize hE24 : upd H23 l9 _ = H24
        have w24 : H24 l9 = some (.lst [.bl true, .bl true, .bl true, .bl (!true)]) := new_at hE24
        have s24 := new_same hE24 m9
        refine neD_same (SqL.of (s24 _ _ w23)) (SqL.of w24) (flat4 _ _ _ _) ⟨_, rfl, iteF ?_⟩
        have s2124 := (s22.trans s23).trans s24
        have D1 := C1.same s2124
        have D2 := C2.same s2124
        have D3 := C3.same s2124
        -- the bent one
        refine ⟨_, rfl, _, rfl, eqS T D1 D3 okS okS' ⟨_, rfl, _, rfl, eqS T D3 D1 okS' okS ⟨_, rfl, _, rfl, by show 1 ≤ sizeLine; decide, fun l10 m10 => ?_⟩⟩⟩
        generalize hE25 : upd H24 l10 _ = H25
        have w25 := new_at hE25
        have s25 := new_same hE25 m10
        refine ⟨l10, _, rfl, w25, n13'.symm, eqS T (D3.same s25) (D1.same s25) okS' okS ⟨fun _ _ h => h, ?_⟩⟩
        refine ⟨_, rfl, _, rfl, neS T (D3.same s25) (D2.same s25) okS' okS ⟨by show 4 ≤ sizeLine; decide, fun l11 m11 => ?_⟩⟩
        rw [eN, eN']
        generalize hE26 : upd H25 l11 _ = H26
        have w26 := new_at hE26
        have s26 := new_same hE26 m11
        refine ⟨by show 4 ≤ sizeLine; decide, fun l12 m12 => ?_⟩
        generalize hE27 : upd H26 l12 _ = H27
        have w27 : H27 l12 = some (.lst [.bl false, .bl false, .bl false, .bl (!false)]) := new_at hE27
        have s27 := new_same hE27 m12
        refine neD_same (SqL.of (s27 _ _ w26)) (SqL.of w27) (flat4 _ _ _ _) ⟨_, rfl, iteF ?_⟩
        have s2427 := (s25.trans s26).trans s27
        have s2127 := s2124.trans s2427
        have E1 := C1.same s2127
        have E2 := C2.same s2127
        have E3 := C3.same s2127
        have pt27 : UO.plainTy H27 K odd Ty := by
          cases odd with
          | ref d =>
            rcases pt with ⟨e, xs, h⟩ | ⟨e, xs, h⟩
            · exact .inl ⟨e, xs, s2127.seq h⟩
            · exact .inr ⟨e, xs, tup_same s2127 h⟩
          | _ => exact pt
        -- the odd one
        refine ⟨_, rfl, _, rfl, eqOdd T E1 okS pt27 ⟨_, rfl, iteF ?_⟩⟩
        refine ⟨_, rfl, _, rfl, oddEq T E1 okS pt27 ⟨_, rfl, iteF ?_⟩⟩
        refine ⟨_, rfl, _, rfl, neOdd T E1 okS pt27 ⟨_, rfl, iteF ?_⟩⟩
        have keepR' : ∀ {H H' : Hp} {l : Addr} {s : SF}, Same H H' → RowsAt K H l s → RowsAt K H' l s := fun e h => by
          obtain ⟨w, u, x, b, h0, h1, h2, h3, h4⟩ := h
          exact ⟨w, u, x, b, e.seq h0, tup_same e h1, tup_same e h2, tup_same e h3, tup_same e h4⟩
        have npb : b ≠ p := (B15.ne nb).symm
        have R21 : RowsAt K H21 D s := hs ▸ rows_of rl (SqL.of (k21 _ _ wD20 npD.symm)) fun r hr => k21.tup B20.notTp (tup_same s1520 (hT15 r hr))
        have R21' : RowsAt K H21 b s' := hs' ▸ rows_of rl' (SqL.of (k21 _ _ (s20 _ _ (s19 _ _ wb18)) npb)) fun r hr => k21.tup B20.notTp (tup_same s20 (tup_same s19 (hT18 r hr)))
        have R27 := keepR' s2127 R21
        have R27' := keepR' s2127 R21'
        refine ⟨_, rfl, _, rfl, p1, D, s, rfl, E1, R27, okS, fewS, fun H28 s28 => ⟨_, rfl, iteF ?_⟩⟩
        refine ⟨_, rfl, _, rfl, p2, D, s, rfl, E2.same s28, keepR' s28 R27, okS, fewS, fun H29 s29 => ⟨_, rfl, iteF ?_⟩⟩
        have s2729 := s28.trans s29
        refine ⟨_, rfl, _, rfl, p3, b, s', rfl, E3.same s2729, keepR' s2729 R27', okS', fewS', fun H30 s30 => ⟨_, rfl, iteF ?_⟩⟩
        have S15 : Same H H15 := Same.own S5 k515 npH
        have S21 : Same H H21 := Same.own (S15.trans s1520) k21 npH
        exact ⟨S21.trans (s2127.trans (s2729.trans s30)), _, _, _, _, _, _, _, _, _, _, _, rfl⟩
    · rintro σ H1 ⟨s1, y1, y2, y3, y4, y5, y6, y7, y8, y9, y10, y11, rfl⟩
      exact q _

-- SPLIT
end
theorem kb_Stand_init_1_back_later_up_wished_mk {K : PySem.W.Frag} {f : Addr} {fd : FuncData} (F : FunD K "__init__" "Stand.__init__" (defArgs s_Stand_init) (defBody s_Stand_init) (defScope s_Stand_init) [] [("wished", V.ref (UO.kwAdr K ("Stand", some "__init__") "wished")), ("up", V.ref (UO.kwAdr K ("Stand", some "__init__") "up")), ("later", V.ref (UO.kwAdr K ("Stand", some "__init__") "later")), ("back", V.ref (UO.kwAdr K ("Stand", some "__init__") "back"))] f fd) : ∃ gg, KBn K fd ["self", "wished", "up", "later", "back"] 1 ["back", "later", "up", "wished"] gg (fun us ws => us ++ (ws.drop 3).take 1 ++ (ws.drop 2).take 1 ++ (ws.drop 1).take 1 ++ (ws.drop 0).take 1) := by
  obtain ⟨mv, h⟩ := F.kbinds0 (ps := ["self", "wished", "up", "later", "back"]) 1 ["back", "later", "up", "wished"] [] (fun us mv ws => us ++ (ws.drop 3).take 1 ++ (ws.drop 2).take 1 ++ (ws.drop 1).take 1 ++ (ws.drop 0).take 1) (by intro z; cases z) (by simp) (fun r1 r2 r3 => ((((r1.append (vals_take ((r3).drop 3) 1)).append (vals_take ((r3).drop 2) 1)).append (vals_take ((r3).drop 1) 1)).append (vals_take ((r3).drop 0) 1))) (fun D doc pm an cdv ct us mv ws h1 h2 h3 => match us, mv, ws, h1, h2, h3 with | [_], [], [_, _, _, _], _, _, _ => rfl)
  exact ⟨_, h⟩
theorem kb_Stand_init_1_wished_up_later_back_mk {K : PySem.W.Frag} {f : Addr} {fd : FuncData} (F : FunD K "__init__" "Stand.__init__" (defArgs s_Stand_init) (defBody s_Stand_init) (defScope s_Stand_init) [] [("wished", V.ref (UO.kwAdr K ("Stand", some "__init__") "wished")), ("up", V.ref (UO.kwAdr K ("Stand", some "__init__") "up")), ("later", V.ref (UO.kwAdr K ("Stand", some "__init__") "later")), ("back", V.ref (UO.kwAdr K ("Stand", some "__init__") "back"))] f fd) : ∃ gg, KBn K fd ["self", "wished", "up", "later", "back"] 1 ["wished", "up", "later", "back"] gg (fun us ws => us ++ (ws.drop 0).take 1 ++ (ws.drop 1).take 1 ++ (ws.drop 2).take 1 ++ (ws.drop 3).take 1) := by
  obtain ⟨mv, h⟩ := F.kbinds0 (ps := ["self", "wished", "up", "later", "back"]) 1 ["wished", "up", "later", "back"] [] (fun us mv ws => us ++ (ws.drop 0).take 1 ++ (ws.drop 1).take 1 ++ (ws.drop 2).take 1 ++ (ws.drop 3).take 1) (by intro z; cases z) (by simp) (fun r1 r2 r3 => ((((r1.append (vals_take ((r3).drop 0) 1)).append (vals_take ((r3).drop 1) 1)).append (vals_take ((r3).drop 2) 1)).append (vals_take ((r3).drop 3) 1))) (fun D doc pm an cdv ct us mv ws h1 h2 h3 => match us, mv, ws, h1, h2, h3 with | [_], [], [_, _, _, _], _, _, _ => rfl)
  exact ⟨_, h⟩
theorem kb_Stand_init_1_up_wished_mk {K : PySem.W.Frag} {f : Addr} {fd : FuncData} (F : FunD K "__init__" "Stand.__init__" (defArgs s_Stand_init) (defBody s_Stand_init) (defScope s_Stand_init) [] [("wished", V.ref (UO.kwAdr K ("Stand", some "__init__") "wished")), ("up", V.ref (UO.kwAdr K ("Stand", some "__init__") "up")), ("later", V.ref (UO.kwAdr K ("Stand", some "__init__") "later")), ("back", V.ref (UO.kwAdr K ("Stand", some "__init__") "back"))] f fd) : ∃ gg, KBn K fd ["self", "wished", "up", "later", "back"] 1 ["up", "wished"] gg (fun us ws => us ++ (ws.drop 1).take 1 ++ (ws.drop 0).take 1 ++ ([V.ref (UO.kwAdr K ("Stand", some "__init__") "later"), V.ref (UO.kwAdr K ("Stand", some "__init__") "back")].drop 0).take 1 ++ ([V.ref (UO.kwAdr K ("Stand", some "__init__") "later"), V.ref (UO.kwAdr K ("Stand", some "__init__") "back")].drop 1).take 1) := by
  obtain ⟨mv, h⟩ := F.kbinds0 (ps := ["self", "wished", "up", "later", "back"]) 1 ["up", "wished"] [("later", V.ref (UO.kwAdr K ("Stand", some "__init__") "later")), ("back", V.ref (UO.kwAdr K ("Stand", some "__init__") "back"))] (fun us mv ws => us ++ (ws.drop 1).take 1 ++ (ws.drop 0).take 1 ++ (mv.drop 0).take 1 ++ (mv.drop 1).take 1) (by intro z; cases z) (by simp) (fun r1 r2 r3 => ((((r1.append (vals_take ((r3).drop 1) 1)).append (vals_take ((r3).drop 0) 1)).append (vals_take ((r2).drop 0) 1)).append (vals_take ((r2).drop 1) 1))) (fun D doc pm an cdv ct us mv ws h1 h2 h3 => match us, mv, ws, h1, h2, h3 with | [_], [_, _], [_, _], _, _, _ => ⟨_, _, _, _, _, _, rfl, rfl, ⟨_, _, _, _, _, _, rfl, rfl, rfl⟩⟩)
  exact ⟨_, h⟩
theorem kb_Stand_init_1_back_later_up_mk {K : PySem.W.Frag} {f : Addr} {fd : FuncData} (F : FunD K "__init__" "Stand.__init__" (defArgs s_Stand_init) (defBody s_Stand_init) (defScope s_Stand_init) [] [("wished", V.ref (UO.kwAdr K ("Stand", some "__init__") "wished")), ("up", V.ref (UO.kwAdr K ("Stand", some "__init__") "up")), ("later", V.ref (UO.kwAdr K ("Stand", some "__init__") "later")), ("back", V.ref (UO.kwAdr K ("Stand", some "__init__") "back"))] f fd) : ∃ gg, KBn K fd ["self", "wished", "up", "later", "back"] 1 ["back", "later", "up"] gg (fun us ws => us ++ ([V.ref (UO.kwAdr K ("Stand", some "__init__") "wished")].drop 0).take 1 ++ (ws.drop 2).take 1 ++ (ws.drop 1).take 1 ++ (ws.drop 0).take 1) := by
  obtain ⟨mv, h⟩ := F.kbinds0 (ps := ["self", "wished", "up", "later", "back"]) 1 ["back", "later", "up"] [("wished", V.ref (UO.kwAdr K ("Stand", some "__init__") "wished"))] (fun us mv ws => us ++ (mv.drop 0).take 1 ++ (ws.drop 2).take 1 ++ (ws.drop 1).take 1 ++ (ws.drop 0).take 1) (by intro z; cases z) (by simp) (fun r1 r2 r3 => ((((r1.append (vals_take ((r2).drop 0) 1)).append (vals_take ((r3).drop 2) 1)).append (vals_take ((r3).drop 1) 1)).append (vals_take ((r3).drop 0) 1))) (fun D doc pm an cdv ct us mv ws h1 h2 h3 => match us, mv, ws, h1, h2, h3 with | [_], [_], [_, _, _], _, _, _ => ⟨_, _, _, _, _, _, rfl, rfl, rfl⟩)
  exact ⟨_, h⟩
theorem kb_open_in_0_stand_mk {K : PySem.W.Frag} {f : Addr} {fd : FuncData} (F : FunD K "open_in" "open_in" (defArgs s_open_in) (defBody s_open_in) (defScope s_open_in) [] [] f fd) : ∃ gg, KBn K fd ["stand"] 0 ["stand"] gg (fun us ws => us ++ (ws.drop 0).take 1) := by
  obtain ⟨oc, od, dV, kV, doc, pm, an, cdv, ct, osl, rfl, lk, hcd, hD, hK⟩ := F.ex
  rcases hD with ⟨_, rfl⟩ | ⟨e, _⟩
  · refine ⟨fun us ws => us ++ (ws.drop 0).take 1, ⟨fun s us ws X l1 l2 => ?_, fun r1 r3 => (r1.append (vals_take ((r3).drop 0) 1))⟩⟩
    match us, ws, l1, l2 with | [], [_], _, _ => exact .of_eq rfl
  · exact absurd rfl e
theorem kb_Stand_init_1_none_mk {K : PySem.W.Frag} {f : Addr} {fd : FuncData} (F : FunD K "__init__" "Stand.__init__" (defArgs s_Stand_init) (defBody s_Stand_init) (defScope s_Stand_init) [] [("wished", V.ref (UO.kwAdr K ("Stand", some "__init__") "wished")), ("up", V.ref (UO.kwAdr K ("Stand", some "__init__") "up")), ("later", V.ref (UO.kwAdr K ("Stand", some "__init__") "later")), ("back", V.ref (UO.kwAdr K ("Stand", some "__init__") "back"))] f fd) : ∃ gg, KBn K fd ["self", "wished", "up", "later", "back"] 1 [] gg (fun us ws => us ++ ([V.ref (UO.kwAdr K ("Stand", some "__init__") "wished"), V.ref (UO.kwAdr K ("Stand", some "__init__") "up"), V.ref (UO.kwAdr K ("Stand", some "__init__") "later"), V.ref (UO.kwAdr K ("Stand", some "__init__") "back")].drop 0).take 1 ++ ([V.ref (UO.kwAdr K ("Stand", some "__init__") "wished"), V.ref (UO.kwAdr K ("Stand", some "__init__") "up"), V.ref (UO.kwAdr K ("Stand", some "__init__") "later"), V.ref (UO.kwAdr K ("Stand", some "__init__") "back")].drop 1).take 1 ++ ([V.ref (UO.kwAdr K ("Stand", some "__init__") "wished"), V.ref (UO.kwAdr K ("Stand", some "__init__") "up"), V.ref (UO.kwAdr K ("Stand", some "__init__") "later"), V.ref (UO.kwAdr K ("Stand", some "__init__") "back")].drop 2).take 1 ++ ([V.ref (UO.kwAdr K ("Stand", some "__init__") "wished"), V.ref (UO.kwAdr K ("Stand", some "__init__") "up"), V.ref (UO.kwAdr K ("Stand", some "__init__") "later"), V.ref (UO.kwAdr K ("Stand", some "__init__") "back")].drop 3).take 1) := by
  obtain ⟨mv, h⟩ := F.kbinds0 (ps := ["self", "wished", "up", "later", "back"]) 1 [] [("wished", V.ref (UO.kwAdr K ("Stand", some "__init__") "wished")), ("up", V.ref (UO.kwAdr K ("Stand", some "__init__") "up")), ("later", V.ref (UO.kwAdr K ("Stand", some "__init__") "later")), ("back", V.ref (UO.kwAdr K ("Stand", some "__init__") "back"))] (fun us mv ws => us ++ (mv.drop 0).take 1 ++ (mv.drop 1).take 1 ++ (mv.drop 2).take 1 ++ (mv.drop 3).take 1) (by intro z; cases z) (by simp) (fun r1 r2 r3 => ((((r1.append (vals_take ((r2).drop 0) 1)).append (vals_take ((r2).drop 1) 1)).append (vals_take ((r2).drop 2) 1)).append (vals_take ((r2).drop 3) 1))) (fun D doc pm an cdv ct us mv ws h1 h2 h3 => match us, mv, ws, h1, h2, h3 with | [_], [_, _, _, _], [], _, _, _ => ⟨_, _, _, _, _, _, rfl, rfl, ⟨_, _, _, _, _, _, rfl, rfl, ⟨_, _, _, _, _, _, rfl, rfl, ⟨_, _, _, _, _, _, rfl, rfl, rfl⟩⟩⟩⟩)
  exact ⟨_, h⟩
def dd_Stand_init : He.DefD := ⟨("Stand", some "__init__"), "__init__", "Stand.__init__", defArgs s_Stand_init, defBody s_Stand_init, defScope s_Stand_init, [], [("wished", .adr (fun K => UO.kwAdr K ("Stand", some "__init__") "wished")), ("up", .adr (fun K => UO.kwAdr K ("Stand", some "__init__") "up")), ("later", .adr (fun K => UO.kwAdr K ("Stand", some "__init__") "later")), ("back", .adr (fun K => UO.kwAdr K ("Stand", some "__init__") "back"))]⟩
def dd_Stand_eq : He.DefD := ⟨("Stand", some "__eq__"), "__eq__", "Stand.__eq__", defArgs s_Stand_eq, defBody s_Stand_eq, defScope s_Stand_eq, [], []⟩
def dd_open_in : He.DefD := ⟨("open_in", none), "open_in", "open_in", defArgs s_open_in, defBody s_open_in, defScope s_open_in, [], []⟩
def dd_law_bag : He.DefD := ⟨("_law_bag", none), "_law_bag", "_law_bag", defArgs s_law_bag, defBody s_law_bag, defScope s_law_bag, [], []⟩
def dd_law_take : He.DefD := ⟨("_law_take", none), "_law_take", "_law_take", defArgs s_law_take, defBody s_law_take, defScope s_law_take, [], []⟩
def dd_law_name : He.DefD := ⟨("_law_name", none), "_law_name", "_law_name", defArgs s_law_name, defBody s_law_name, defScope s_law_name, [], []⟩
def dd_law_names : He.DefD := ⟨("_law_names", none), "_law_names", "_law_names", defArgs s_law_names, defBody s_law_names, defScope s_law_names, [], []⟩
def dd_law_some : He.DefD := ⟨("_law_some", none), "_law_some", "_law_some", defArgs s_law_some, defBody s_law_some, defScope s_law_some, [], []⟩
def dd_law_made : He.DefD := ⟨("_law_made", none), "_law_made", "_law_made", defArgs s_law_made, defBody s_law_made, defScope s_law_made, [], []⟩
def dd_law_right : He.DefD := ⟨("_law_right", none), "_law_right", "_law_right", defArgs s_law_right, defBody s_law_right, defScope s_law_right, [], []⟩
def dd_law : He.DefD := ⟨("law", none), "law", "law", defArgs s_law, defBody s_law, defScope s_law, [], []⟩
def fn : List He.DefD := [dd_Stand_init, dd_Stand_eq, dd_open_in, dd_law_bag, dd_law_take, dd_law_name, dd_law_names, dd_law_some, dd_law_made, dd_law_right, dd_law]
def fa : List He.Fa := [.meth "Stand" "__eq__", .glo "open_in", .glo "_law_bag", .glo "_law_take", .glo "_law_name", .glo "_law_names", .glo "_law_some", .glo "_law_made", .glo "_law_right", .glo "law", .glo "Stand", .cls "Stand", .mkr "Stand", .noat "Stand" "wished", .noat "Stand" "up", .noat "Stand" "later", .noat "Stand" "back", .free "isinstance", .free "abs", .free "len", .free "int", .free "range", .free "list", .free "tuple", .free "max", .free "min", .free "sorted"]
abbrev R : PySem.W.OpenRow := PySem.W.OpenLaw.row PySem.Challenge.rw_unitwants_k18_stands_equal
def exB (K : PySem.W.Frag) : Bool := UO.insB "Stand" K && UO.tup0B K (UO.kwAdr K ("Stand", some "__init__") "wished") && UO.tup0B K (UO.kwAdr K ("Stand", some "__init__") "up") && UO.tup0B K (UO.kwAdr K ("Stand", some "__init__") "later") && UO.tup0B K (UO.kwAdr K ("Stand", some "__init__") "back")
abbrev hk : PySem.W.Hook := UO.hookB 6 fa fn exB
def ob (s : PySem.W.SharedT) : UO.AlB := UO.obsB 6 fa fn exB (HandSHeadRun.getT s)
theorem ob_eq (s : PySem.W.SharedT) : ob s = hk.obs s.abs := UO.obsB_eq (HandSHeadRun.getT_eq s)
set_option maxHeartbeats 0 in
theorem run (w : World) : HandSHeadRun.RunEq R (PySem.W.view R.prog [11]) hk ob 4000 ["Stand", "open_in", "_law_bag", "_law_take", "_law_name", "_law_names", "_law_some", "_law_made", "_law_right"] w := by
  intro os
  kernel_rfl
theorem facts {P : Program} {w : World} {K : PySem.W.Frag} {h : Heap} {mg : Str → Option Value} {f : Addr} (X : K.In h) (G : h.Ns mainGlobals mg) (hfa : mg ("law" : Str) = some (.ref f)) (c : He.SaysD fa fn K) (cx : exB K = true) :
    ∃ fd : FuncData, (∀ (s : Shared) (v : Value), BindsTo s fd ⟨[v], []⟩ [("_law_script", v)]) ∧ ∀ base : Heap, K.In base → base.Ns mainGlobals mg → FnOk P w K mg base CX0 11 f fd ["_law_script"] (sp_law K) := by
  obtain ⟨d0, F0⟩ := c.def_ 0 (d := dd_Stand_init) rfl
  obtain ⟨d1, F1⟩ := c.def_ 1 (d := dd_Stand_eq) rfl
  obtain ⟨d2, F2⟩ := c.def_ 2 (d := dd_open_in) rfl
  obtain ⟨d3, F3⟩ := c.def_ 3 (d := dd_law_bag) rfl
  obtain ⟨d4, F4⟩ := c.def_ 4 (d := dd_law_take) rfl
  obtain ⟨d5, F5⟩ := c.def_ 5 (d := dd_law_name) rfl
  obtain ⟨d6, F6⟩ := c.def_ 6 (d := dd_law_names) rfl
  obtain ⟨d7, F7⟩ := c.def_ 7 (d := dd_law_some) rfl
  obtain ⟨d8, F8⟩ := c.def_ 8 (d := dd_law_made) rfl
  obtain ⟨d9, F9⟩ := c.def_ 9 (d := dd_law_right) rfl
  obtain ⟨d10, F10⟩ := c.def_ 10 (d := dd_law) rfl
  let T : Txt K mg := {
    d_Stand_init := d0
    F_Stand_init := F0
    d_Stand_eq := d1
    F_Stand_eq := F1
    b_Stand_eq := FunD.bindsN (ps := ["self", "other"]) F1 fun _ _ _ _ _ _ us hl => match us, hl with | [_, _], _ => rfl
    d_open_in := d2
    F_open_in := F2
    b_open_in := FunD.bindsN (ps := ["stand"]) F2 fun _ _ _ _ _ _ us hl => match us, hl with | [_], _ => rfl
    d_law_bag := d3
    F_law_bag := F3
    b_law_bag := FunD.bindsN (ps := ["_law_script", "_law_at"]) F3 fun _ _ _ _ _ _ us hl => match us, hl with | [_, _], _ => rfl
    d_law_take := d4
    F_law_take := F4
    b_law_take := FunD.bindsN (ps := ["_law_bag_here", "_law_size"]) F4 fun _ _ _ _ _ _ us hl => match us, hl with | [_, _], _ => rfl
    d_law_name := d5
    F_law_name := F5
    b_law_name := FunD.bindsN (ps := ["_law_bag_here"]) F5 fun _ _ _ _ _ _ us hl => match us, hl with | [_], _ => rfl
    d_law_names := d6
    F_law_names := F6
    b_law_names := FunD.bindsN (ps := ["_law_bag_here", "_law_size"]) F6 fun _ _ _ _ _ _ us hl => match us, hl with | [_, _], _ => rfl
    d_law_some := d7
    F_law_some := F7
    b_law_some := FunD.bindsN (ps := ["_law_bag_here", "_law_pool", "_law_most"]) F7 fun _ _ _ _ _ _ us hl => match us, hl with | [_, _, _], _ => rfl
    d_law_made := d8
    F_law_made := F8
    b_law_made := FunD.bindsN (ps := ["_law_way", "_law_rows"]) F8 fun _ _ _ _ _ _ us hl => match us, hl with | [_, _], _ => rfl
    d_law_right := d9
    F_law_right := F9
    b_law_right := FunD.bindsN (ps := ["_law_one", "_law_rows"]) F9 fun _ _ _ _ _ _ us hl => match us, hl with | [_, _], _ => rfl
    d_law := d10
    F_law := F10
    b_law := FunD.bindsN (ps := ["_law_script"]) F10 fun _ _ _ _ _ _ us hl => match us, hl with | [_], _ => rfl
    me_Stand_eq := He.meth_ok (c.fact 0 (f := .meth "Stand" "__eq__") rfl)
    m_open_in := He.glo_ok X G (c.fact 1 (f := .glo "open_in") rfl)
    m_law_bag := He.glo_ok X G (c.fact 2 (f := .glo "_law_bag") rfl)
    m_law_take := He.glo_ok X G (c.fact 3 (f := .glo "_law_take") rfl)
    m_law_name := He.glo_ok X G (c.fact 4 (f := .glo "_law_name") rfl)
    m_law_names := He.glo_ok X G (c.fact 5 (f := .glo "_law_names") rfl)
    m_law_some := He.glo_ok X G (c.fact 6 (f := .glo "_law_some") rfl)
    m_law_made := He.glo_ok X G (c.fact 7 (f := .glo "_law_made") rfl)
    m_law_right := He.glo_ok X G (c.fact 8 (f := .glo "_law_right") rfl)
    m_law := He.glo_ok X G (c.fact 9 (f := .glo "law") rfl)
    m_Stand := He.glo_ok X G (c.fact 10 (f := .glo "Stand") rfl)
    cl_Stand := He.cls_ok (c.fact 11 (f := .cls "Stand") rfl)
    mk_Stand := He.mkr_ok (c.fact 12 (f := .mkr "Stand") rfl)
    na_Stand_wished := He.noat_ok (c.fact 13 (f := .noat "Stand" "wished") rfl)
    na_Stand_up := He.noat_ok (c.fact 14 (f := .noat "Stand" "up") rfl)
    na_Stand_later := He.noat_ok (c.fact 15 (f := .noat "Stand" "later") rfl)
    na_Stand_back := He.noat_ok (c.fact 16 (f := .noat "Stand" "back") rfl)
    n_isinstance := He.free_ok X G (c.fact 17 (f := .free "isinstance") rfl)
    n_abs := He.free_ok X G (c.fact 18 (f := .free "abs") rfl)
    n_len := He.free_ok X G (c.fact 19 (f := .free "len") rfl)
    n_int := He.free_ok X G (c.fact 20 (f := .free "int") rfl)
    n_range := He.free_ok X G (c.fact 21 (f := .free "range") rfl)
    n_list := He.free_ok X G (c.fact 22 (f := .free "list") rfl)
    n_tuple := He.free_ok X G (c.fact 23 (f := .free "tuple") rfl)
    n_max := He.free_ok X G (c.fact 24 (f := .free "max") rfl)
    n_min := He.free_ok X G (c.fact 25 (f := .free "min") rfl)
    n_sorted := He.free_ok X G (c.fact 26 (f := .free "sorted") rfl)
    ix_Stand := UO.insB_ok (He.ba (He.ba (He.ba (He.ba cx).1).1).1).1
    e0_Stand_init_wished := fun H => UO.tup0B_ok (He.ba (He.ba (He.ba (He.ba cx).1).1).1).2 H
    e0_Stand_init_up := fun H => UO.tup0B_ok (He.ba (He.ba (He.ba cx).1).1).2 H
    e0_Stand_init_later := fun H => UO.tup0B_ok (He.ba (He.ba cx).1).2 H
    e0_Stand_init_back := fun H => UO.tup0B_ok (He.ba cx).2 H
    kb_Stand_init_1_back_later_up_wished := kb_Stand_init_1_back_later_up_wished_mk F0
    kb_Stand_init_1_wished_up_later_back := kb_Stand_init_1_wished_up_later_back_mk F0
    kb_Stand_init_1_up_wished := kb_Stand_init_1_up_wished_mk F0
    kb_Stand_init_1_back_later_up := kb_Stand_init_1_back_later_up_mk F0
    kb_open_in_0_stand := kb_open_in_0_stand_mk F2
    kb_Stand_init_1_none := kb_Stand_init_1_none_mk F0 }
  have e := hfa.symm.trans T.m_law
  cases e
  have b := FunD.bindsA (ps := ["_law_script"]) T.F_law fun _ _ _ _ _ _ us hl => match us, hl with | [_], _ => rfl
  exact ⟨T.d_law, fun s v => b s [v] rfl, fun base _ _ => ok_law T⟩
end K18
open PySem PySem.W PySem.Calls PyProof.Rows
set_option maxRecDepth 100000 in
set_option maxHeartbeats 0 in
theorem PySem.Challenge.cw_unitwants_k18_stands_equal_holds : PySem.Challenge.rw_unitwants_k18_stands_equal.Holds := by
  w_on; o_law
  refine HandSHeadRun.head_any (r := OpenLaw.row PySem.Challenge.rw_unitwants_k18_stands_equal) (q := view (OpenLaw.row PySem.Challenge.rw_unitwants_k18_stands_equal).prog [11]) (H := K18.hk) (ob := K18.ob) (M := 4000) (loose := ["Stand", "open_in", "_law_bag", "_law_take", "_law_name", "_law_names", "_law_some", "_law_made", "_law_right"]) (d := HandSHeadRun.topDef (OpenLaw.row PySem.Challenge.rw_unitwants_k18_stands_equal).prog 11) (kwd := []) K18.ob_eq
    (by kernel_rfl) (fun s => by kernel_rfl) K18.run (by kernel_rfl) (by kernel_rfl) (by kernel_rfl) (by rfl) (by first | assumption | decide +kernel) (by decide +kernel) ⟨rfl, rfl, rfl, rfl, rfl, by decide +kernel⟩ ?hw ?hc
  case hw => w_witness2
  case hc =>
    refine L2.walk_ofE (l := PySem.Challenge.rw_unitwants_k18_stands_equal) (n := 63) (k := 11) (x := "_law_script") (CX := L2.CX0) rfl (by decide) (by kernel_rfl) ⟨rfl, by decide, by decide⟩ ?F (fun _ _ _ _ z => z)
    intro w mg fa h Y G hmg0
    obtain ⟨K, KX, c, cx⟩ := Y
    have hmg : mg ("law" : PySem.Str) = some (.ref fa) := by
      have e : (HandSHeadRun.topDef (OpenLaw.row PySem.Challenge.rw_unitwants_k18_stands_equal).prog 11).name = ("law" : PySem.Str) := by kernel_rfl
      rw [← e]
      exact hmg0
    obtain ⟨fd, hb, hF⟩ := K18.facts (P := (PySem.Challenge.rw_unitwants_k18_stands_equal).prog) (w := w) KX G hmg c cx
    exact ⟨K, fd, K18.sp_law K, KX, hb, fun H a ns hl _ hS => ⟨a, ns, rfl, hS, hl, fun _ => rfl⟩, hF⟩
