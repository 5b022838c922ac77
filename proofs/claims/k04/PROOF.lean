import PyProof.Rows.All
import Wide.All
import OpenK.AllK
import Wide.FinOn
import KE.KStateDown
import HandS.ForMost
import HandS.More
import HandS.WordsExc
import HandS.Defaults
import HandS.MakeKwOnly
import HandS.IsInst
import HandS.FStr
import HandS.Walk
import HandS.TupAny
import HandS.SortKw
import HandS.OwnEq
import KE.KFmtOwn
import KE.DataMinMax
import KE.DatumOrd
import KE.SortData
import HandS.Deep
import HandS.SetKeys
import HandS.DictComp
import HandS.Conv
import HandS.Style
import HandS.Evl
import HandS.Head0
import HandS.Head1
import HandS.Head2
import HandS.HeadEnd
import HandS.HeadHook1
import HandS.HeadHook2
import PySem.Challenge.RW_unitwants_k04_units_made_and_equal
set_option Elab.async false
set_option linter.all false
set_option maxRecDepth 100000
set_option maxHeartbeats 4000000
/-! own layer: heaps, rules that lacked, the bag of draws -/
namespace UW
open PySem PySem.Spec PyProof.Rows L2

/-! ### heaps -/
theorem same_upd {H : Hp} {p : Addr} {o : HO} (h : H p = none) : Same H (upd H p o) := fun b x e => by
  rw [upd_ne (ne_of_none e h)]
  exact e
theorem new_at {H H2 : Hp} {p : Addr} {o : HO} (e : upd H p o = H2) : H2 p = some o := by
  rw [← e]
  exact upd_same
theorem new_same {H H2 : Hp} {p : Addr} {o : HO} (e : upd H p o = H2) (h : H p = none) : Same H H2 := by
  rw [← e]
  exact same_upd h
/-- all but p is as it was -/
def Kp (p : Addr) (H H' : Hp) : Prop := ∀ c o, H c = some o → c ≠ p → H' c = some o
theorem Kp.refl (p : Addr) (H : Hp) : Kp p H H := fun _ _ h _ => h
theorem Kp.trans {p : Addr} {H H1 H2 : Hp} (a : Kp p H H1) (b : Kp p H1 H2) : Kp p H H2 := fun c o h n => b c o (a c o h n) n
theorem Kp.of {p : Addr} {H H' : Hp} (s : Same H H') : Kp p H H' := fun c o h _ => s c o h
theorem Kp.same {p : Addr} {H H1 H2 : Hp} (a : Kp p H H1) (b : Same H1 H2) : Kp p H H2 := a.trans (.of b)
theorem mut_keep {H H2 : Hp} {p : Addr} {o : HO} (e : upd H p o = H2) : Kp p H H2 := fun c x h n => by
  rw [← e, upd_ne n]
  exact h
/-- an object that H did not know has changed -/
theorem Kp.own {p q : Addr} {H H1 H2 : Hp} (a : Kp p H H1) (b : Kp q H1 H2) (n : H q = none) : Kp p H H2 := fun c o h m => b c o (a c o h m) (ne_of_none h n)
theorem Same.own {q : Addr} {H H1 H2 : Hp} (a : Same H H1) (b : Kp q H1 H2) (n : H q = none) : Same H H2 := fun c o h => b c o (a c o h) (ne_of_none h n)
theorem Kp.free {p q : Addr} {H H' : Hp} (a : Kp p H H') (h : H' q = none) (n : q ≠ p) : H q = none := by
  cases e : H q with
  | none => rfl
  | some o =>
    rw [a q o e n] at h
    cases h
theorem Kp.seq {K : PySem.W.Frag} {p a : Addr} {H H' : Hp} {xs : List V} (k : Kp p H H') (n : a ≠ p) (h : SqL K H a xs) : SqL K H' a xs := by
  rcases h with (h | ⟨o, h⟩) | h
  · exact .inl (.inl (k _ _ h n))
  · exact .inl (.inr ⟨o, k _ _ h n⟩)
  · exact .inr h
theorem ne_some {H : Hp} {a b : Addr} {o : HO} (h : H a = some o) (n : H b = none) : a ≠ b := fun e => by
  rw [e, n] at h
  cases h

/-! ### rules that lacked -/
section
variable {X : Cx}
def CPowL (i j : Int) : Prop := 0 ≤ j ∧ j ≤ 100 ∧ i.natAbs < 2 ^ 1000
theorem op_powL : OpR X (binaryOp .Pow) (rI CPowL fun i j => .int (i ^ j.toNat)) := opI fun i j _ _ _ _ _ hc q => by
  obtain ⟨h1, h2, h3⟩ := hc
  have b := intBits_le h3
  refine pow_int h1 ?_ q
  have b' : (Builtin.Int.intBits i : Int) ≤ 1000 := by exact_mod_cast b
  have b0 : (0 : Int) ≤ (Builtin.Int.intBits i : Int) := Int.natCast_nonneg _
  have := Int.mul_le_mul b' h2 h1 (by decide)
  exact Int.le_trans this (by decide)
def ipC (C : Int → Int → Prop) (f : Int → Int → Int) : TIp := fun x y H Q => ∃ i j, x = .int i ∧ y = .int j ∧ C i j ∧ Q (.int (f i j)) H
theorem ip_mul : PIp X .Mult (ipC CMul fun i j => i * j) := by
  intro pins s σ H x y v u Q I r1 r2 h
  obtain ⟨i, j, e1, e2, hc, q⟩ := h
  subst e1; subst e2
  obtain ⟨t, rfl⟩ := r1
  obtain ⟨t', rfl⟩ := r2
  exact imul_int ⟨.int _, H, I.tok _, ⟨_, rfl⟩, q⟩ hc.ok
theorem vals_take {vs : List V} {us : List Value} (h : Vals vs us) : ∀ n, Vals (vs.take n) (us.take n) := by
  induction h with
  | nil => intro n; rw [List.take_nil, List.take_nil]; exact .nil
  | cons r _ ih =>
    intro n
    cases n with
    | zero => exact .nil
    | succ n => exact .cons r (ih n)
/-- f(k = v, ..) -/
theorem pe_callN0 {CX : CXT} {k : Nat} {f : Addr} {fd : FuncData} {ps ks : List Str} {sp : Sp} {E : XK} {x : Str} {p pos : Pos} {kws : List Keyword} {tk : TA} {g : List Value → List Value → List Value} {gV : List V → List V → List V}
    (F : FnOk X.prog X.w X.K X.mg X.base CX k f fd ps sp) (hr : Room k X.A) (hg : Gl X x) (hm : X.mg x = some (.ref f)) (hk : PySem.W.keepIn X.K (.ref f) = true) (hb : KBn X.K fd ps 0 ks g gV) (hx : Passes CX X E) (hkw : PK X kws tk)
    (hall : (backToKw pos (keywordEach kws X.env)).all (·.1.isSome) = true := by rfl) (hks : (backToKw pos (keywordEach kws X.env)).filterMap (·.1) = ks := by rfl) (hdb : (x == ("__debug__" : Str)) = false := by decide)
    (hpl : ((backTo pos (starEach [] X.env)).any (·.1) || (backToKw pos (keywordEach kws X.env)).any (·.1.isNone)) = false := by rfl) :
    PE X (.Call (.Name x p) [] kws pos) (tCallN 0 ks.length sp gV E tNil tk) := by
  refine ⟨fun pins s σ H Q I h => ?_⟩
  refine wpAny_Call_Name_kw (ld_glob I hg hm ?_ hdb)
  refine PySem.W.callWith_KW0 (h₀ := X.base) I.ok.mod.kin hk hall ?_ hpl
  refine thn (hkw.run pos pins s σ H _ I h) fun ws s2 ⟨zs, H2, I2, rz, l1, l2, q2⟩ => ⟨I2.kIn, ?_⟩
  rw [hks]
  exact run_fnN (us := []) (vs := []) F hr hb hx I2 .nil rz rfl l2 q2
end

/-! ### the bag of draws -/
structure Bag (n : Nat) (H : Hp) (p : Addr) : Prop where
  ex : ∃ a b c : Int, H p = some (.lst [.int a, .int b, .int c]) ∧ 0 ≤ a ∧ 0 ≤ b ∧ b < 2 ^ 64 ∧ 0 ≤ c ∧ c ≤ n
theorem Bag.le {n m : Nat} {H : Hp} {p : Addr} (b : Bag n H p) (h : n ≤ m) : Bag m H p := by
  obtain ⟨a, x, c, h1, h2, h3, h4, h5, h6⟩ := b.ex
  exact ⟨a, x, c, h1, h2, h3, h4, h5, by omega⟩
theorem Bag.same {n : Nat} {H H' : Hp} {p : Addr} (b : Bag n H p) (s : Same H H') : Bag n H' p := by
  obtain ⟨a, x, c, h1, h⟩ := b.ex
  exact ⟨a, x, c, s _ _ h1, h⟩
theorem Bag.keep {n : Nat} {H H' : Hp} {p q : Addr} (b : Bag n H p) (s : Kp q H H') (ne : p ≠ q) : Bag n H' p := by
  obtain ⟨a, x, c, h1, h⟩ := b.ex
  exact ⟨a, x, c, s _ _ h1 ne, h⟩
theorem Bag.ne {n : Nat} {H : Hp} {p q : Addr} (b : Bag n H p) (h : H q = none) : p ≠ q := by
  obtain ⟨a, x, c, h1, _⟩ := b.ex
  exact ne_some h1 h
theorem Bag.some {n : Nat} {H : Hp} {p : Addr} (b : Bag n H p) : ∃ o, H p = some o := by
  obtain ⟨a, x, c, h1, _⟩ := b.ex
  exact ⟨_, h1⟩
/-- the five numbers of a rule within their bounds -/
structure Five (f m t b s : Int) : Prop where
  f1 : 1 ≤ f
  f2 : f ≤ 1000
  m1 : 1 ≤ m
  m2 : m ≤ 10
  t1 : 1 ≤ t
  t2 : t ≤ 1000000
  b1 : 0 ≤ b
  b2 : b ≤ 20
  s1 : 0 ≤ s
  s2 : s ≤ 1000000
end UW
namespace UW
open PySem L2
/-- for i, x in enumerate(xs), both names plain -/
theorem for_enum2 {K : PySem.W.Frag} {a : Addr} {xs : List V} {i j : Nat} {tb : TS} {D : Ends} {σ : St} {H : Hp} (Pv : Nat → St → Hp → Prop) (h0 : Pv 0 σ H) (hl : ∀ k σ H, k ≤ xs.length → Pv k σ H → SqL K H a xs)
    (hs : ∀ k x σ H H2, xs[k]? = some x → Pv k σ H → Same H H2 → tb { D with nx := Pv (k + 1), ct := Pv (k + 1), bk := D.nx } ((σ.set i (some (.int (k : Nat)))).set j (some x)) H2) (hd : ∀ σ H, Pv xs.length σ H → D.nx σ H) :
    ∃ W : Nat → Nat → St → Hp → Prop, (∃ m, W 0 m σ H) ∧ ∀ k m σ H, W k m σ H →
      ((Ite K a).stop k H ∧ D.nx σ H) ∨ ((Ite K a).go k H ∧ ∃ N : St → Hp → Prop, (∀ σ' H', N σ' H' → ∃ m', m' < m ∧ W (k + 1) m' σ' H') ∧ ∀ x H', (Ite K a).yld k H x H' → gTup K 2 (gCons (gName i) (gCons (gName j) gNil)) x σ H' fun σ2 H2 => tb { D with nx := N, ct := N, bk := D.nx } σ2 H2) := by
  refine for_it walk_enum Pv h0 hl (fun k v σ H H' hk p y => ?_) hd
  obtain ⟨T, x, y, rfl, nT, rfl, e1, e2⟩ := y
  cases e1
  exact ⟨T, _, rfl, .inl (.inl upd_same), rfl, _, _, rfl, _, _, rfl, rfl, hs k y σ H _ e2 p (same_upd nT)⟩
/-- one item of a short list by its place -/
theorem at0 {α : Type} {a : α} {r : List α} : atI (a :: r) 0 = some a := atI_nat (j := 0) rfl
theorem at1 {α : Type} {a b : α} {r : List α} : atI (a :: b :: r) 1 = some b := atI_nat (j := 1) rfl
theorem at2 {α : Type} {a b c : α} {r : List α} : atI (a :: b :: c :: r) 2 = some c := atI_nat (j := 2) rfl
theorem at3 {α : Type} {a b c d : α} {r : List α} : atI (a :: b :: c :: d :: r) 3 = some d := atI_nat (j := 3) rfl
theorem at4 {α : Type} {a b c d e : α} {r : List α} : atI (a :: b :: c :: d :: e :: r) 4 = some e := atI_nat (j := 4) rfl
end UW
namespace UW
open PySem L2
theorem bag_made {H : Hp} {p : Addr} {c k : Int} {b : Bool} (h0 : 0 ≤ k) (h1 : k ≤ 1000) : Bag 0 (upd H p (.lst [.int ((if c < 0 then -c else c) * (if b = true then 1 else 0)), .int (c % (10 ^ (18 : Int).toNat + 9) + 1299709 * k), .int 0])) p := by
  refine ⟨_, _, _, upd_same, ?_, ?_, ?_, Int.le_refl _, Int.le_refl _⟩
  · have : (0 : Int) ≤ if c < 0 then -c else c := by split <;> omega
    cases b
    · simp
    · simpa using this
  · have e : (10 ^ (18 : Int).toNat + 9 : Int) = 1000000000000000009 := by decide
    rw [e]
    omega
  · have e : (10 ^ (18 : Int).toNat + 9 : Int) = 1000000000000000009 := by decide
    rw [e]
    omega
end UW
namespace UW
open PySem L2
theorem cmul_b {i : Int} {b : Bool} : CMul i (if b = true then 1 else 0) := by
  cases b
  · exact .inr ⟨by decide, by decide⟩
  · exact .inr ⟨by decide, by decide⟩
theorem pow10 {j : Int} (h0 : 0 ≤ j := by decide) (h1 : j ≤ 100 := by decide) : CPowL 10 j :=
  ⟨h0, h1, Nat.lt_of_lt_of_le (show (10 : Int).natAbs < 2 ^ 4 by decide) (Nat.pow_le_pow_right (by decide) (by decide))⟩
/-- the primes of a draw -/
abbrev primes : List V := [.int 2147483647, .int 2147483629, .int 2147483587, .int 2147483579, .int 2147483563, .int 2147483549, .int 2147483543, .int 2147483497]
theorem prime_at (c : Int) : ∃ p : Int, atI primes (c % 8) = some (.int p) ∧ 0 < p ∧ p < 2147483648 := by
  have h0 : 0 ≤ c % 8 := Int.emod_nonneg _ (by decide)
  have h1 : c % 8 < 8 := Int.emod_lt_of_pos _ (by decide)
  generalize c % 8 = d at h0 h1
  obtain ⟨k, rfl⟩ := Int.eq_ofNat_of_zero_le h0
  have hk : k < 8 := by omega
  match k, hk with
  | 0, _ => exact ⟨_, atI_nat (j := 0) rfl, by decide, by decide⟩
  | 1, _ => exact ⟨_, atI_nat (j := 1) rfl, by decide, by decide⟩
  | 2, _ => exact ⟨_, atI_nat (j := 2) rfl, by decide, by decide⟩
  | 3, _ => exact ⟨_, atI_nat (j := 3) rfl, by decide, by decide⟩
  | 4, _ => exact ⟨_, atI_nat (j := 4) rfl, by decide, by decide⟩
  | 5, _ => exact ⟨_, atI_nat (j := 5) rfl, by decide, by decide⟩
  | 6, _ => exact ⟨_, atI_nat (j := 6) rfl, by decide, by decide⟩
  | 7, _ => exact ⟨_, atI_nat (j := 7) rfl, by decide, by decide⟩
theorem basis_small {b c : Int} (h0 : 0 ≤ b) (h1 : b < 2 ^ 64) (h2 : 0 ≤ c) (h3 : c < 2000000000) : (b * (2 * c + 1) + 7919 * c * c + 29).natAbs < 2 ^ 1000 := by
  have e1 : b * (2 * c + 1) ≤ 2 ^ 64 * (2 * 2000000000 + 1) := Int.mul_le_mul (by omega) (by omega) (by omega) (by decide)
  have e2 : 7919 * c * c ≤ 7919 * 2000000000 * 2000000000 := Int.mul_le_mul (by omega) (by omega) h2 (by decide)
  have e3 : 0 ≤ b * (2 * c + 1) := Int.mul_nonneg h0 (by omega)
  have e4 : 0 ≤ 7919 * c * c := Int.mul_nonneg (by omega) h2
  refine Nat.lt_of_lt_of_le (m := 2 ^ 200) ?_ (Nat.pow_le_pow_right (by decide) (by decide))
  have e5 : b * (2 * c + 1) + 7919 * c * c + 29 < 2 ^ 200 := by
    have : (2 ^ 64 * (2 * 2000000000 + 1) + 7919 * 2000000000 * 2000000000 + 29 : Int) < 2 ^ 200 := by decide
    omega
  omega
end UW
namespace UW
open PySem L2
/-- a draw: a number from 0 to below a size; the bag alone has changed -/
@[irreducible] def spTake : Sp := fun vs H Q _ => ∃ (p : Addr) (z : Int) (n : Nat), vs = [.ref p, .int z] ∧ Bag n H p ∧ 0 < z ∧ z < 1073741824 ∧ n < 1000000000 ∧
  ∀ (r : Int) H', 0 ≤ r → r < z → Bag (n + 1) H' p → Kp p H H' → Q (.int r) H'
theorem take_of {H : Hp} {p : Addr} {n : Nat} {z : Int} {Q : VK} {E : XK} (B : Bag n H p) (h0 : 0 < z) (h1 : z < 1073741824) (hn : n < 1000000000)
    (q : ∀ (r : Int) H', 0 ≤ r → r < z → Bag (n + 1) H' p → Kp p H H' → Q (.int r) H') : spTake [.ref p, .int z] H Q E := by
  unfold spTake
  exact ⟨p, z, n, rfl, B, h0, h1, hn, q⟩
theorem take_un {vs : List V} {H : Hp} {Q : VK} {E : XK} (h : spTake vs H Q E) : ∃ (p : Addr) (z : Int) (n : Nat), vs = [.ref p, .int z] ∧ Bag n H p ∧ 0 < z ∧ z < 1073741824 ∧ n < 1000000000 ∧
    ∀ (r : Int) H', 0 ≤ r → r < z → Bag (n + 1) H' p → Kp p H H' → Q (.int r) H' := by
  unfold spTake at h
  exact h
/-- take(bag, [z1, ..][take(bag, k)]), the menu just laid at l -/
theorem take_menu {K : PySem.W.Frag} {H : Hp} {p l : Addr} {n : Nat} {zs : List Int} {k : Int} {Q : VK} {E E' : XK} (B : Bag n H p) (hn : n < 900000000) (hl : H l = none) (hk : k = (zs.length : Int)) (hz0 : 0 < zs.length) (hz1 : zs.length < 1000) (hz : ∀ z ∈ zs, 0 < z ∧ z < 1073741824)
    (q : ∀ (z r : Int) H', z ∈ zs → 0 ≤ r → r < z → Bag (n + 2) H' p → Kp p H H' → Q (.int r) H') :
    spTake [.ref p, .int k] (upd H l (.lst (zs.map V.int))) (fun v H2 => rIxL K (.ref l) v H2 fun w H3 => spTake [.ref p, w] H3 Q E) E' := by
  subst hk
  generalize hE : upd H l _ = H1
  have k1 := new_at hE
  have s1 := new_same hE hl
  have npl := B.ne hl
  refine take_of (B.same s1) (by omega) (by omega) (by omega) fun r H2 r0 r1 B2 kp2 => ?_
  obtain ⟨j, rfl⟩ := Int.eq_ofNat_of_zero_le r0
  have hj : j < zs.length := by omega
  have hm : zs[j] ∈ zs := List.getElem_mem hj
  refine ⟨l, _, _, .int zs[j], rfl, rfl, SqL.of (kp2 _ _ k1 npl.symm), atI_nat (by rw [List.getElem?_map, List.getElem?_eq_getElem hj]; rfl), ?_⟩
  refine take_of B2 (hz _ hm).1 (hz _ hm).2 (by omega) fun r2 H3 q0 q1 B3 kp3 => ?_
  exact q _ r2 H3 hm q0 q1 B3 ((Kp.of s1).trans (kp2.trans kp3))
end UW
namespace UW
open PySem L2
section
variable {X : Cx}
/-- a statement, then the rest, with a word between -/
def tMid (t u : TS) : TS := fun D σ H => ∃ M : L2.St → Hp → Prop, t { D with nx := M } σ H ∧ ∀ σ' H', M σ' H' → u D σ' H'
theorem pss_mid {st : Stmt} {rest : List Stmt} {t u : TS} (h1 : PS X st t) (h2 : PSs X rest u) : PSs X (st :: rest) (tMid t u) := by
  refine ⟨fun pins s σ H D I h => ?_⟩
  obtain ⟨M, hm, hu⟩ := h
  refine wpAny_execs_cons (thn (h1.run pins s σ H { D with nx := M } I hm) fun f s1 q => ?_)
  cases f with
  | next =>
    obtain ⟨σ', H', I', q⟩ := q
    exact h2.run pins s1 σ' H' D I' (hu σ' H' q)
  | ret v => exact q
  | brk => exact q
  | cont => exact q
/-- an expression with a word behind it -/
def tMidE (t : TE) : TE := fun σ H Q => ∃ M : VK, t σ H M ∧ ∀ v H', M v H' → Q v H'
theorem pe_mid {e : Expr} {t : TE} (h : PE X e t) : PE X e (tMidE t) := by
  refine ⟨fun pins s σ H Q I ⟨M, hm, hq⟩ => ?_⟩
  exact thn (h.run pins s σ H M I hm) fun u s1 ⟨v, H', I', r, q⟩ => ⟨v, H', I', r, hq v H' q⟩
def tMidT (t : TT) : TT := fun σ H Q => ∃ M : Bool → Hp → Prop, t σ H M ∧ ∀ b H', M b H' → Q b H'
theorem pt_mid {e : Expr} {t : TT} (h : PT X e t) : PT X e (tMidT t) := by
  refine ⟨fun pins s σ H Q I ⟨M, hm, hq⟩ => ?_⟩
  exact thn (h.run pins s σ H M I hm) fun b s1 ⟨H', I', q⟩ => ⟨H', I', hq b H' q⟩
end
end UW
namespace UW
theorem iteY {c A B : Prop} [Decidable c] (hc : c) (h : A) : if c then A else B := by
  rw [if_pos hc]
  exact h
theorem iteN {c A B : Prop} [Decidable c] (hc : ¬ c) (h : B) : if c then A else B := by
  rw [if_neg hc]
  exact h
theorem iteYd {c A B : Prop} [Decidable c] (hc : c) (h : A) : if decide c = true then A else B := iteY (decide_eq_true hc) h
theorem iteNd {c A B : Prop} [Decidable c] (hc : ¬ c) (h : B) : if decide c = true then A else B := iteN (fun z => hc (of_decide_eq_true z)) h
end UW
namespace UW
open PySem L2
/-- None, truths, ints -/
def flatN : V → Bool
  | .non => true
  | .bl _ => true
  | .int _ => true
  | _ => false
def flatD : V → PyData
  | .non => .none
  | .bl b => .bool b
  | .int i => .int i
  | _ => .none
theorem dp_flat {K : PySem.W.Frag} {H : Hp} {v : V} (h : flatN v = true) : Dp K H v (flatD v) := by
  cases v with
  | non => exact .non
  | bl b => exact .bl b
  | int i => exact .int i
  | _ => cases h
theorem dpAll_flat {K : PySem.W.Frag} {H : Hp} : ∀ {xs : List V}, (∀ v ∈ xs, flatN v = true) → DpAll K H xs (xs.map flatD)
  | [], _ => .nil
  | v :: vs, h => .cons (dp_flat (h v (List.mem_cons_self ..))) (dpAll_flat fun x hx => h x (List.mem_cons_of_mem _ hx))
theorem lay_flat (v : V) : PyData.canLay0 (flatD v) = true ∧ PyData.depth (flatD v) = 0 := by
  cases v <;> exact ⟨by simp only [flatD, PyData.canLay0], by simp only [flatD, PyData.depth]⟩
theorem layAll_flat : ∀ xs : List V, PyData.canLayAll0 (xs.map flatD) = true ∧ PyData.depthAll (xs.map flatD) = 0
  | [] => ⟨by simp only [List.map_nil, PyData.canLayAll0], by simp only [List.map_nil, PyData.depthAll]⟩
  | v :: vs => by
    obtain ⟨a, b⟩ := lay_flat v
    obtain ⟨c, d⟩ := layAll_flat vs
    rw [List.map_cons]
    exact ⟨by simp only [PyData.canLayAll0, a, c, Bool.and_self], by simp only [PyData.depthAll, b, d, Nat.max_self]⟩
theorem shaped_flat (xs : List V) : SeqAt.shaped (.list (xs.map flatD)) = true := by
  obtain ⟨c, d⟩ := layAll_flat xs
  unfold SeqAt.shaped
  simp only [PyData.canLay0, PyData.depth, c, d]
  decide
theorem neD_same {K : PySem.W.Frag} {H : Hp} {a b : Addr} {xs : List V} {Q : VK} (h1 : SqL K H a xs) (h2 : SqL K H b xs) (hf : ∀ v ∈ xs, flatN v = true) (q : Q (.bl false) H) : rNeD K (.ref a) (.ref b) H Q := by
  refine ⟨_, _, .lst h1 (dpAll_flat hf), .lst h2 (dpAll_flat hf), shaped_flat xs, shaped_flat xs, ?_⟩
  have e : PyData.eqv (.list (xs.map flatD)) (.list (xs.map flatD)) = true := SeqAt.eqv_refl _ (by simp only [PyData.canLay0]; exact (layAll_flat xs).1)
  rw [e]
  exact q
end UW
namespace UW
open PySem L2
theorem yes_of {σ : L2.St} {H : Hp} {Q : Bool → Hp → Prop} (h : Q true H) : tYes σ H Q := h
end UW
namespace UW
open PySem L2
/-- max(xs, default=d) of ints: some int -/
def rMaxD (K : PySem.W.Frag) : List V → List V → Hp → VK → Prop := fun vs zs H Q => ∃ (a : Addr) (ns : List Int) (d : Int), vs = [.ref a] ∧ zs = [.int d] ∧ SqL K H a (ns.map V.int) ∧ ∀ m : Int, Q (.int m) H
theorem ints_flatD (ns : List Int) : (ns.map V.int).map flatD = ns.map PyData.int := by
  rw [List.map_map]
  rfl
theorem cr_maxD {X : Cx} (hc : X.calm = true) (hu : X.A.units + 64 < cLine) : CallRK X (.builtin "max") [Str.ofString "default"] (rMaxD X.K) := by
  intro pins s σ H vs zs us ws Q I r rz h
  obtain ⟨a, ns, d, rfl, rfl, hs, q⟩ := h
  obtain ⟨its, rv, hl, _⟩ := I.list hs
  rw [Vals.ref1 r]
  obtain ⟨w1, rfl, t1, rfl⟩ := vals1 rz
  obtain ⟨as, hr⟩ := Dp.readsAll I ((ns.map V.int).map flatD) _ _ (dpAll_flat (K := X.K) (H := H) (xs := ns.map V.int) fun v hv => by
    obtain ⟨i, _, rfl⟩ := List.mem_map.mp hv
    rfl) rv
  have hd := (layAll_flat (ns.map V.int)).2
  refine PySem.W.max_list_default (I.ok.hd hc) hl.isList (vs := its.toArray) hr ⟨?_, ?_⟩ (by rw [hd]; omega) (fun _ h' tk hk => ⟨.int d, H, I.kept hk, ⟨_, rfl⟩, q d⟩) fun y ys i v h' tk bs _ hi _ hk => ?_
  · rw [ints_flatD]
    intro x hx y hy
    obtain ⟨i, _, rfl⟩ := List.mem_map.mp hx
    obtain ⟨j, _, rfl⟩ := List.mem_map.mp hy
    simp only [PySem.W.alike]
  · rw [ints_flatD]
    intro x hx
    obtain ⟨i, _, rfl⟩ := List.mem_map.mp hx
    intro z
    cases z
  · have hv : ∃ n t, v = .int n t := by
      have hi' : its[i]? = some v := by rw [← List.getElem?_toArray]; exact hi
      have : ∀ (vs : List V) (us : List Value) (i : Nat) (v : Value), Vals vs us → us[i]? = some v → ∃ x, vs[i]? = some x ∧ RelV x v := by
        intro vs us i v r
        induction r generalizing i with
        | nil => intro h; simp at h
        | cons r1 _ ih =>
          intro h
          cases i with
          | zero => cases h; exact ⟨_, rfl, r1⟩
          | succ i => exact ih i h
      obtain ⟨x, hx, rx⟩ := this _ _ _ _ rv hi'
      rw [List.getElem?_map] at hx
      cases e : ns[i]? with
      | none => rw [e] at hx; cases hx
      | some n =>
        rw [e] at hx
        cases hx
        obtain ⟨t, rfl⟩ := rx
        exact ⟨n, t, rfl⟩
    obtain ⟨n, t, rfl⟩ := hv
    exact ⟨.int n, H, I.kept hk, ⟨_, rfl⟩, q n⟩
end UW
namespace UW
open PySem L2
theorem ints_flat' (ts : List Int) : ∀ v ∈ ts.map V.int, flatN v = true := fun v hv => by
  obtain ⟨i, _, rfl⟩ := List.mem_map.mp hv
  rfl
theorem eqvAll_len : ∀ xs ys : List PyData, xs.length ≠ ys.length → PyData.eqvAll xs ys = false
  | [], [], h => absurd rfl h
  | [], _ :: _, _ => by simp only [PyData.eqvAll]
  | _ :: _, [], _ => by simp only [PyData.eqvAll]
  | x :: xs, y :: ys, h => by
    simp only [PyData.eqvAll]
    rw [eqvAll_len xs ys (fun e => h (by rw [List.length_cons, List.length_cons, e])), Bool.and_false]
theorem neD_diff {K : PySem.W.Frag} {H : Hp} {a b : Addr} {xs ys : List V} {Q : VK} (h1 : SqL K H a xs) (h2 : SqL K H b ys) (hf : ∀ v ∈ xs, flatN v = true) (hg : ∀ v ∈ ys, flatN v = true) (hl : xs.length ≠ ys.length) (q : Q (.bl true) H) : rNeD K (.ref a) (.ref b) H Q := by
  refine ⟨_, _, .lst h1 (dpAll_flat hf), .lst h2 (dpAll_flat hg), shaped_flat xs, shaped_flat ys, ?_⟩
  have e : PyData.eqv (.list (xs.map flatD)) (.list (ys.map flatD)) = false := by
    simp only [PyData.eqv]
    exact eqvAll_len _ _ (by rw [List.length_map, List.length_map]; exact hl)
  rw [e]
  exact q
theorem eqD_same {K : PySem.W.Frag} {H : Hp} {a b : Addr} {xs : List V} {Q : VK} (h1 : SqL K H a xs) (h2 : SqL K H b xs) (hf : ∀ v ∈ xs, flatN v = true) (q : Q (.bl true) H) : rEqD K (.ref a) (.ref b) H Q := by
  refine ⟨_, _, .lst h1 (dpAll_flat hf), .lst h2 (dpAll_flat hf), shaped_flat xs, shaped_flat xs, ?_⟩
  have e : PyData.eqv (.list (xs.map flatD)) (.list (xs.map flatD)) = true := SeqAt.eqv_refl _ (by simp only [PyData.canLay0]; exact (layAll_flat xs).1)
  rw [e]
  exact q
end UW
namespace UW
open PySem L2
theorem slA {K : PySem.W.Frag} {H : Hp} {a : Addr} {xs : List V} {lo hi : Option Int} {Q : VK} (h : SqT K H a xs) (q : ∀ p H', Same H H' → SqT K H' p (cutV xs lo hi) → Q (.ref p) H') : rSlA K (.ref a) lo hi H Q := by
  refine ⟨a, xs, rfl, h, fun e => ?_, fun _ p np => ?_⟩
  · refine q a H (Same.refl H) ?_
    have : cutV xs lo hi = xs := by
      unfold cutV
      rw [e.1, e.2, List.drop_zero, Nat.sub_zero, List.take_length]
    rw [this]
    exact h
  · exact q p _ (same_upd np) (SqT.of upd_same)
theorem catA {K : PySem.W.Frag} {H : Hp} {a b : Addr} {xs ys : List V} {Q : VK} (h : SqT K H a xs) (h2 : SqT K H b ys) (hl : xs.length + ys.length ≤ 1000) (q : ∀ p H', Same H H' → SqT K H' p (xs ++ ys) → Q (.ref p) H') : rCatA K (.ref a) (.ref b) H Q := by
  refine ⟨a, b, xs, ys, rfl, rfl, h, h2, Nat.le_trans hl (by decide), fun e => ?_, fun _ e => ?_, fun _ _ p np => ?_⟩
  · exact q b H (Same.refl H) (by rw [e]; exact h2)
  · exact q a H (Same.refl H) (by rw [e, List.append_nil]; exact h)
  · exact q p _ (same_upd np) (SqT.of upd_same)
end UW
namespace UW
open PySem L2
/-! ### names -/
/-- one to eight letters -/
def Nm (x : Str) : Prop := (∀ c ∈ x.cps.toList, 97 ≤ c ∧ c ≤ 122) ∧ 0 < x.length ∧ x.length ≤ 8
abbrev lettersS : Str := Str.ofString "abcdefghijklmnopqrstuvwxyz"
abbrev srettelS : Str := Str.ofString "zyxwvutsrqponmlkjihgfedcba"
theorem letters_tl : lettersS.cps.toList = (List.range 26).map (97 + ·) := by decide +kernel
theorem srettel_tl : srettelS.cps.toList = (List.range 26).map (122 - ·) := by decide +kernel
theorem letters_size : lettersS.cps.size = 26 := by decide +kernel
theorem srettel_size : srettelS.cps.size = 26 := by decide +kernel
theorem len_tl' (x : Str) : x.length = x.cps.toList.length := TL.len_tl x
theorem tl_app (x y : Str) : (x ++ y).cps.toList = x.cps.toList ++ y.cps.toList := TL.tl_append x y
theorem str_ext {x y : Str} (h : x.cps.toList = y.cps.toList) : x = y := TL.ext_tl h
theorem letter_at {r : Int} (h0 : 0 ≤ r) (h1 : r < 26) : ∃ c, atI lettersS.cps.toList r = some c ∧ 97 ≤ c ∧ c ≤ 122 := by
  obtain ⟨j, rfl⟩ := Int.eq_ofNat_of_zero_le h0
  have hj : j < 26 := by omega
  refine ⟨97 + j, atI_nat ?_, by omega, by omega⟩
  rw [letters_tl, List.getElem?_map, List.getElem?_range hj]
  rfl
theorem letters_get {i c : Nat} (h : lettersS.cps[i]? = some c) : i < 26 ∧ c = 97 + i := by
  rw [← Array.getElem?_toList, letters_tl, List.getElem?_map] at h
  by_cases hi : i < 26
  · rw [List.getElem?_range hi] at h
    exact ⟨hi, (Option.some.inj h).symm⟩
  · rw [List.getElem?_eq_none (by rw [List.length_range]; omega)] at h
    cases h
theorem srettel_get {i c : Nat} (h : srettelS.cps[i]? = some c) : i < 26 ∧ c = 122 - i := by
  rw [← Array.getElem?_toList, srettel_tl, List.getElem?_map] at h
  by_cases hi : i < 26
  · rw [List.getElem?_range hi] at h
    exact ⟨hi, (Option.some.inj h).symm⟩
  · rw [List.getElem?_eq_none (by rw [List.length_range]; omega)] at h
    cases h
theorem inV_str (w : Str) : ∀ xs : List Str, inV (.str w) (xs.map V.str) = decide (w ∈ xs)
  | [] => rfl
  | x :: xs => by
    have ih := inV_str w xs
    unfold inV at ih ⊢
    rw [List.map_cons, List.any_cons, ih]
    show (x == w || decide (w ∈ xs)) = decide (w ∈ x :: xs)
    by_cases h : x = w
    · subst h
      rw [beq_self_eq_true, Bool.true_or, decide_eq_true (List.mem_cons_self ..)]
    · rw [show (x == w) = false from beq_eq_false_iff_ne.mpr h, Bool.false_or]
      exact decide_eq_decide.mpr ⟨fun z => List.mem_cons_of_mem _ z, fun z => by
        rcases List.mem_cons.mp z with z | z
        · exact absurd z.symm h
        · exact z⟩
theorem strs_flat (xs : List Str) : (xs.map V.str).all flatV = true := by
  rw [List.all_eq_true]
  intro v hv
  obtain ⟨x, _, rfl⟩ := List.mem_map.mp hv
  rfl
theorem nodup_le {α : Type} [DecidableEq α] : ∀ (cs ds : List α), cs.Nodup → (∀ c ∈ cs, c ∈ ds) → cs.length ≤ ds.length
  | [], _, _, _ => Nat.zero_le _
  | c :: cs, ds, hn, h => by
    obtain ⟨h1, h2⟩ := List.nodup_cons.mp hn
    have hm := h c (List.mem_cons_self ..)
    have ih := nodup_le cs (ds.erase c) h2 fun x hx => by
      have hne : x ≠ c := fun e => h1 (e ▸ hx)
      exact (List.mem_erase_of_ne hne).mpr (h x (List.mem_cons_of_mem _ hx))
    rw [List.length_erase_of_mem hm] at ih
    have := List.length_pos_of_mem hm
    rw [List.length_cons]
    omega
theorem free_in {α : Type} [DecidableEq α] {cs ds : List α} (hn : cs.Nodup) (h : ds.length < cs.length) : ∃ c ∈ cs, c ∉ ds := by
  by_cases q : ∃ c ∈ cs, c ∉ ds
  · exact q
  · have := nodup_le cs ds hn fun c hc => by
      by_cases hd : c ∈ ds
      · exact hd
      · exact absurd ⟨c, hc, hd⟩ q
    omega
/-- the text without its first sign -/
abbrev tailS (w : Str) : Str := cutS w (some 1) none
theorem tailS_tl (w : Str) : (tailS w).cps.toList = w.cps.toList.drop 1 := by
  show (List.take _ _ : List Nat) = _
  rw [show HT.sIx w.length 0 (some 1) = min 1 w.length from HT.sIx_nat w.length 0 1, HT.sIx_none]
  have hl := len_tl' w
  rw [hl]
  by_cases h : 1 ≤ w.cps.toList.length
  · rw [Nat.min_eq_left h, List.take_of_length_le (by rw [List.length_drop]; exact Nat.le_refl _)]
  · rw [Nat.min_eq_right (by omega), Nat.sub_self, List.take_zero, List.drop_of_length_le (by omega)]
theorem sign_app_tl (c : Nat) (x : Str) : ((⟨#[c]⟩ : Str) ++ x).cps.toList = c :: x.cps.toList := by
  rw [tl_app]
  rfl
/-- the 26 texts with another first letter -/
def cands (x : Str) : List Str := (List.range 26).map fun i => (⟨#[97 + i]⟩ : Str) ++ x
theorem cands_nodup (x : Str) : (cands x).Nodup := by
  unfold cands
  rw [List.nodup_iff_pairwise_ne, List.pairwise_map]
  refine List.Pairwise.imp ?_ List.nodup_range
  intro i j hij e
  have := congrArg (fun z : Str => z.cps.toList) e
  rw [show ((⟨#[97 + i]⟩ : Str) ++ x).cps.toList = (97 + i) :: x.cps.toList from sign_app_tl _ _, show ((⟨#[97 + j]⟩ : Str) ++ x).cps.toList = (97 + j) :: x.cps.toList from sign_app_tl _ _] at this
  injection this with h1 _
  omega
theorem cand_nm {w : Str} (h : Nm w) {i : Nat} (hi : i < 26) : Nm ((⟨#[97 + i]⟩ : Str) ++ tailS w) := by
  obtain ⟨h1, h2, h3⟩ := h
  have e := sign_app_tl (97 + i) (tailS w)
  have hl : ((⟨#[97 + i]⟩ : Str) ++ tailS w).length = w.length := by
    rw [len_tl', e, tailS_tl, List.length_cons, List.length_drop, ← len_tl']
    omega
  refine ⟨fun c hc => ?_, by omega, by omega⟩
  rw [e, tailS_tl] at hc
  rcases List.mem_cons.mp hc with rfl | hc
  · omega
  · exact h1 c (List.mem_of_mem_drop hc)
theorem join_one {ys : List Str} (h : ∀ y ∈ ys, ∃ c, y = ⟨#[c]⟩ ∧ 97 ≤ c ∧ c ≤ 122) (h0 : 0 < ys.length) (h8 : ys.length ≤ 8) : Nm (Txt.join (Str.ofString "") ys) := by
  have key : ∀ ys : List Str, (∀ y ∈ ys, ∃ c, y = ⟨#[c]⟩ ∧ 97 ≤ c ∧ c ≤ 122) → (Str.join (Str.ofString "") ys).cps.toList.length = ys.length ∧ ∀ c ∈ (Str.join (Str.ofString "") ys).cps.toList, 97 ≤ c ∧ c ≤ 122 := by
    intro ys
    induction ys with
    | nil => exact fun _ => ⟨rfl, fun c hc => by cases hc⟩
    | cons y ys ih =>
      intro h
      obtain ⟨c, rfl, h1, h2⟩ := h y (List.mem_cons_self ..)
      cases ys with
      | nil =>
        refine ⟨rfl, fun d hd => ?_⟩
        have hd' : d ∈ [c] := hd
        rw [List.mem_singleton.mp hd']
        exact ⟨h1, h2⟩
      | cons z zs =>
        obtain ⟨i1, i2⟩ := ih fun y hy => h y (List.mem_cons_of_mem _ hy)
        have e : (Str.join (Str.ofString "") (⟨#[c]⟩ :: z :: zs)).cps.toList = c :: (Str.join (Str.ofString "") (z :: zs)).cps.toList := by
          show ((⟨#[c]⟩ : Str) ++ Str.ofString "" ++ Str.join (Str.ofString "") (z :: zs)).cps.toList = _
          rw [tl_app, tl_app]
          rfl
        rw [e]
        refine ⟨by rw [List.length_cons, i1]; rfl, fun d hd => ?_⟩
        rcases List.mem_cons.mp hd with rfl | hd
        · exact ⟨h1, h2⟩
        · exact i2 d hd
  obtain ⟨k1, k2⟩ := key ys h
  rw [TL.join_eq]
  exact ⟨k2, by rw [len_tl', k1]; exact h0, by rw [len_tl', k1]; exact h8⟩
end UW
namespace UW
theorem range_map_succ' {α : Type} (g : Nat → α) (n : Nat) : (List.range (n + 1)).map g = (List.range n).map g ++ [g n] := by
  rw [List.range_succ, List.map_append]
  rfl
end UW
namespace UW
open PySem L2
/-! ### lists and tuples of texts compared -/
theorem Nm.ok {x : Str} (h : Nm x) : PyData.strOk x = true := by
  unfold PyData.strOk
  rw [Array.all_eq_true']
  intro c hc
  have := (h.1 c (Array.mem_toList_iff.mpr hc)).2
  exact decide_eq_true (by omega)
theorem dpAll_strs {K : PySem.W.Frag} {H : Hp} : ∀ xs : List Str, DpAll K H (xs.map V.str) (xs.map PyData.str)
  | [] => .nil
  | x :: xs => .cons (.str x) (dpAll_strs xs)
theorem layAll_strs : ∀ {xs : List Str}, (∀ x ∈ xs, PyData.strOk x = true) → PyData.canLayAll0 (xs.map PyData.str) = true ∧ PyData.depthAll (xs.map PyData.str) = 0
  | [], _ => ⟨by simp only [List.map_nil, PyData.canLayAll0], by simp only [List.map_nil, PyData.depthAll]⟩
  | x :: xs, h => by
    obtain ⟨c, d⟩ := layAll_strs fun y hy => h y (List.mem_cons_of_mem _ hy)
    rw [List.map_cons]
    exact ⟨by simp only [PyData.canLayAll0, PyData.canLay0, h x (List.mem_cons_self ..), c, Bool.and_self], by simp only [PyData.depthAll, PyData.depth, d, Nat.max_self]⟩
theorem shaped_strs {xs : List Str} (h : ∀ x ∈ xs, PyData.strOk x = true) : SeqAt.shaped (.list (xs.map PyData.str)) = true := by
  obtain ⟨c, d⟩ := layAll_strs h
  unfold SeqAt.shaped
  simp only [PyData.canLay0, PyData.depth, c, d]
  decide
theorem eqvAll_strs : ∀ xs ys : List Str, PyData.eqvAll (xs.map PyData.str) (ys.map PyData.str) = decide (xs = ys)
  | [], [] => by simp only [List.map_nil, PyData.eqvAll]; rfl
  | [], y :: ys => by simp only [List.map_nil, List.map_cons, PyData.eqvAll]; rfl
  | x :: xs, [] => by simp only [List.map_nil, List.map_cons, PyData.eqvAll]; rfl
  | x :: xs, y :: ys => by
    simp only [List.map_cons, PyData.eqvAll, PyData.eqv]
    rw [eqvAll_strs xs ys]
    by_cases h : x = y
    · subst h
      rw [beq_self_eq_true, Bool.true_and]
      exact decide_eq_decide.mpr ⟨fun e => by rw [e], fun e => by injection e⟩
    · rw [show (x == y) = false from beq_eq_false_iff_ne.mpr h, Bool.false_and]
      exact (decide_eq_false fun e => h (by injection e)).symm
/-- xs != ys of texts -/
theorem neD_strs {K : PySem.W.Frag} {H : Hp} {a b : Addr} {xs ys : List Str} {Q : VK} (h1 : SqL K H a (xs.map V.str)) (h2 : SqL K H b (ys.map V.str)) (hx : ∀ x ∈ xs, PyData.strOk x = true) (hy : ∀ y ∈ ys, PyData.strOk y = true) (q : Q (.bl (!decide (xs = ys))) H) : rNeD K (.ref a) (.ref b) H Q := by
  refine ⟨_, _, .lst h1 (dpAll_strs xs), .lst h2 (dpAll_strs ys), shaped_strs hx, shaped_strs hy, ?_⟩
  have e : PyData.eqv (.list (xs.map PyData.str)) (.list (ys.map PyData.str)) = decide (xs = ys) := by
    simp only [PyData.eqv]
    exact eqvAll_strs xs ys
  rw [e]
  exact q
theorem seq_ix {r : Int} {n : Nat} (h0 : 0 ≤ r) (h1 : r < n) : seqIndex? r n = some r.toNat := (ixN_seq (by
  unfold ixN
  rw [if_pos h0, if_pos h1])).1
end UW
namespace UW
theorem perm_pick {α : Type} : ∀ (ls : List α) (k : Nat) (h : k < ls.length), (ls[k] :: ls.eraseIdx k).Perm ls
  | [], _, h => absurd h (Nat.not_lt_zero _)
  | x :: xs, 0, _ => List.Perm.refl _
  | x :: xs, k + 1, h => by
    have hk : k < xs.length := by simpa using h
    have ih := perm_pick xs k hk
    show (xs[k] :: x :: xs.eraseIdx k).Perm (x :: xs)
    exact (List.Perm.swap _ _ _).trans (List.Perm.cons x ih)
theorem map_pick {α β : Type} (f : α → β) : ∀ (ls : List α) (k : Nat), (ls.map f).eraseIdx k = (ls.eraseIdx k).map f
  | [], _ => rfl
  | x :: xs, 0 => rfl
  | x :: xs, k + 1 => by
    show f x :: (xs.map f).eraseIdx k = f x :: (xs.eraseIdx k).map f
    rw [map_pick f xs k]
end UW
namespace UW
open PySem L2
theorem cutV_to {xs : List V} {n : Nat} : cutV xs none (some (n : Int)) = xs.take n := by
  unfold cutV
  rw [show HT.sIx xs.length xs.length (some (n : Int)) = min n xs.length from HT.sIx_nat xs.length xs.length n, HT.sIx_none]
  show (xs.drop 0).take (min n xs.length - 0) = xs.take n
  rw [List.drop_zero, Nat.sub_zero]
  by_cases h : n ≤ xs.length
  · rw [Nat.min_eq_left h]
  · rw [Nat.min_eq_right (by omega), List.take_length, List.take_of_length_le (by omega)]
theorem menu_ix {zs : List Int} {r : Int} (h0 : 0 ≤ r) (h1 : r < zs.length) : ∃ z, z ∈ zs ∧ atI (zs.map V.int) r = some (.int z) := by
  obtain ⟨j, rfl⟩ := Int.eq_ofNat_of_zero_le h0
  have hj : j < zs.length := by omega
  exact ⟨zs[j], List.getElem_mem hj, atI_nat (by rw [List.getElem?_map, List.getElem?_eq_getElem hj]; rfl)⟩
theorem menu_str {zs : List Str} {r : Int} (h0 : 0 ≤ r) (h1 : r < zs.length) : ∃ z, z ∈ zs ∧ atI (zs.map V.str) r = some (.str z) := by
  obtain ⟨j, rfl⟩ := Int.eq_ofNat_of_zero_le h0
  have hj : j < zs.length := by omega
  exact ⟨zs[j], List.getElem_mem hj, atI_nat (by rw [List.getElem?_map, List.getElem?_eq_getElem hj]; rfl)⟩
/-! ### facts of units -/
/-- what a unit is made of -/
structure UF where
  kind : Str
  needs : List Str
  wants : List Str
  bars : List Str
  after : List Str
  opens : Option Str
  five : Option (Int × Int × Int × Int × Int)
deriving DecidableEq
def UF.named (u : UF) : List Str := u.needs ++ u.wants ++ u.bars ++ u.after ++ u.opens.toList
def optV : Option Str → V
  | none => .non
  | some x => .str x
def FiveAt (H : Hp) : V → Option (Int × Int × Int × Int × Int) → Prop
  | v, none => v = .non
  | v, some (f, m, t, b, s) => ∃ p, v = .ref p ∧ H p = some (.tup [.int f, .int m, .int t, .int b, .int s]) ∧ Five f m t b s
/-- the seven facts stand in a tuple -/
def FactAt (H : Hp) (v : V) (u : UF) : Prop := ∃ (t n w b a : Addr) (g : V), v = .ref t ∧ H t = some (.tup [.str u.kind, .ref n, .ref w, .ref b, .ref a, optV u.opens, g]) ∧
  H n = some (.tup (u.needs.map V.str)) ∧ H w = some (.tup (u.wants.map V.str)) ∧ H b = some (.tup (u.bars.map V.str)) ∧ H a = some (.tup (u.after.map V.str)) ∧ FiveAt H g u.five
def NotTup (H : Hp) (q : Addr) : Prop := ∀ xs, H q ≠ some (.tup xs)
theorem NotTup.ne {H : Hp} {q c : Addr} {xs : List V} (h : NotTup H q) (e : H c = some (.tup xs)) : c ≠ q := fun z => h xs (z ▸ e)
theorem NotTup.lst {H : Hp} {q : Addr} {xs : List V} (h : H q = some (.lst xs)) : NotTup H q := fun ys e => by rw [h] at e; cases e
theorem NotTup.dK {H : Hp} {q : Addr} {kvs : List (Key × V)} (h : H q = some (.dK kvs)) : NotTup H q := fun ys e => by rw [h] at e; cases e
theorem NotTup.none {H : Hp} {q : Addr} (h : H q = Option.none) : NotTup H q := fun ys e => by rw [h] at e; cases e
theorem Bag.notTup {n : Nat} {H : Hp} {p : Addr} (b : Bag n H p) : NotTup H p := by
  obtain ⟨_, _, _, h, _⟩ := b.ex
  exact .lst h
theorem FiveAt.keep {H H' : Hp} {q : Addr} {v : V} {o : Option (Int × Int × Int × Int × Int)} (h : FiveAt H v o) (k : Kp q H H') (n : NotTup H q) : FiveAt H' v o := by
  cases o with
  | none => exact h
  | some o =>
    obtain ⟨f, m, t, b, s⟩ := o
    obtain ⟨p, e, hp, F⟩ := h
    exact ⟨p, e, k _ _ hp (n.ne hp), F⟩
theorem FactAt.keep {H H' : Hp} {q : Addr} {v : V} {u : UF} (h : FactAt H v u) (k : Kp q H H') (n : NotTup H q) : FactAt H' v u := by
  obtain ⟨t, a1, a2, a3, a4, g, e, h0, h1, h2, h3, h4, h5⟩ := h
  exact ⟨t, a1, a2, a3, a4, g, e, k _ _ h0 (n.ne h0), k _ _ h1 (n.ne h1), k _ _ h2 (n.ne h2), k _ _ h3 (n.ne h3), k _ _ h4 (n.ne h4), h5.keep k n⟩
theorem FiveAt.same {H H' : Hp} {v : V} {o : Option (Int × Int × Int × Int × Int)} (h : FiveAt H v o) (s : Same H H') : FiveAt H' v o := by
  cases o with
  | none => exact h
  | some o =>
    obtain ⟨f, m, t, b, s'⟩ := o
    obtain ⟨p, e, hp, F⟩ := h
    exact ⟨p, e, s _ _ hp, F⟩
theorem FactAt.same {H H' : Hp} {v : V} {u : UF} (h : FactAt H v u) (s : Same H H') : FactAt H' v u := by
  obtain ⟨t, a1, a2, a3, a4, g, e, h0, h1, h2, h3, h4, h5⟩ := h
  exact ⟨t, a1, a2, a3, a4, g, e, s _ _ h0, s _ _ h1, s _ _ h2, s _ _ h3, s _ _ h4, h5.same s⟩
/-- a dict of facts by names -/
inductive FactsAt (H : Hp) : List (Key × V) → List (Str × UF) → Prop
  | nil : FactsAt H [] []
  | snoc {kvs : List (Key × V)} {us : List (Str × UF)} {w : Str} {v : V} {u : UF} (h : FactsAt H kvs us) (e : FactAt H v u) : FactsAt H (kvs ++ [(Sum.inr w, v)]) (us ++ [(w, u)])
theorem FactsAt.keep {H H' : Hp} {q : Addr} {kvs : List (Key × V)} {us : List (Str × UF)} (h : FactsAt H kvs us) (k : Kp q H H') (n : NotTup H q) : FactsAt H' kvs us := by
  induction h with
  | nil => exact .nil
  | snoc _ e ih => exact .snoc ih (e.keep k n)
theorem FactsAt.same {H H' : Hp} {kvs : List (Key × V)} {us : List (Str × UF)} (h : FactsAt H kvs us) (s : Same H H') : FactsAt H' kvs us := by
  induction h with
  | nil => exact .nil
  | snoc _ e ih => exact .snoc ih (e.same s)
theorem FactsAt.len {H : Hp} {kvs : List (Key × V)} {us : List (Str × UF)} (h : FactsAt H kvs us) : kvs.length = us.length := by
  induction h with
  | nil => rfl
  | snoc _ _ ih => rw [List.length_append, List.length_append, ih]; rfl
theorem FactsAt.keys {H : Hp} {kvs : List (Key × V)} {us : List (Str × UF)} (h : FactsAt H kvs us) : kvs.map (·.1) = us.map fun p => (Sum.inr p.1 : Key) := by
  induction h with
  | nil => rfl
  | snoc _ _ ih => rw [List.map_append, List.map_append, ih]; rfl
theorem FactsAt.free {H : Hp} {kvs : List (Key × V)} {us : List (Str × UF)} (h : FactsAt H kvs us) {w : Str} (hw : w ∉ us.map (·.1)) : valV kvs (Sum.inr w : Key) = none := by
  induction h with
  | nil => rfl
  | @snoc kvs us w' v u h e ih =>
    rw [List.map_append] at hw
    have h1 : w ∉ us.map (·.1) := fun z => hw (List.mem_append_left _ z)
    have h2 : w ≠ w' := fun z => hw (List.mem_append_right _ (List.mem_singleton.mpr z))
    have q1 := ih h1
    have hv : ∀ kvs : List (Key × V), valV kvs (Sum.inr w : Key) = none → valV (kvs ++ [((Sum.inr w' : Key), v)]) (Sum.inr w : Key) = none := by
      intro kvs
      induction kvs with
      | nil => exact fun _ => valV_neg (fun z => h2 (by cases z; rfl))
      | cons p r ih =>
        intro hn
        by_cases hp : p.1 = (Sum.inr w : Key)
        · rw [valV_pos hp] at hn
          cases hn
        · rw [valV_neg hp] at hn
          rw [List.cons_append, valV_neg hp]
          exact ih hn
    exact hv kvs q1
theorem FactsAt.get {H : Hp} {kvs : List (Key × V)} {us : List (Str × UF)} (h : FactsAt H kvs us) (hn : (us.map (·.1)).Nodup) : ∀ p ∈ us, ∃ v, valV kvs (Sum.inr p.1 : Key) = some v ∧ FactAt H v p.2 := by
  induction h with
  | nil => intro p hp; cases hp
  | @snoc kvs us w v u h e ih =>
    intro p hp
    rw [List.map_append] at hn
    obtain ⟨n1, _, n3⟩ := List.nodup_append.mp hn
    have hw : w ∉ us.map (·.1) := fun z => n3 w z w (List.mem_singleton.mpr rfl) rfl
    have hf := h.free hw
    rw [valV_snoc _ _ _ _ hf]
    rcases List.mem_append.mp hp with hp1 | hp
    · obtain ⟨v', hv', ha⟩ := ih n1 p hp1
      have hne : ¬ (Sum.inr p.1 : Key) = Sum.inr w := fun z => hw (by cases z; exact List.mem_map.mpr ⟨p, hp1, rfl⟩)
      exact ⟨v', by rw [if_neg hne]; exact hv', ha⟩
    · have e' := List.mem_singleton.mp hp
      subst e'
      exact ⟨v, by rw [if_pos rfl], e⟩
/-- what a drawn unit is -/
structure UOk (ns ss : List Str) (w : Str) (u : UF) : Prop where
  kd : u.kind = Str.ofString "work" ∨ u.kind = Str.ofString "goal" ∨ u.kind = Str.ofString "door"
  nN : u.needs.Nodup
  nW : u.wants.Nodup
  nB : u.bars.Nodup
  nA : u.after.Nodup
  lN : u.needs.length ≤ 8
  lW : u.wants.length ≤ 8
  lB : u.bars.length ≤ 8
  lA : u.after.length ≤ 8
  mem : ∀ x ∈ u.named, (x ∈ ns ∨ x ∈ ss) ∧ x ≠ w
  op1 : u.kind = Str.ofString "door" → u.opens ≠ none
  op2 : u.kind ≠ Str.ofString "door" → u.opens = none
end UW

namespace UW
open PySem L2
theorem cutV_bit (ss : List Str) (b : Bool) : ∃ m : Nat, cutV (ss.map V.str) none (some (if b = true then 1 else 0)) = (ss.take m).map V.str := by
  cases b
  · exact ⟨0, by rw [List.map_take]; exact cutV_to (n := 0)⟩
  · exact ⟨1, by rw [List.map_take]; exact cutV_to (n := 1)⟩
theorem cutV_strs (ss : List Str) (n : Nat) : cutV (ss.map V.str) none (some (n : Int)) = (ss.take n).map V.str := by
  rw [List.map_take]
  exact cutV_to
def rcands (x : Str) : List Str := (List.range 26).map fun i => (⟨#[122 - i]⟩ : Str) ++ x
theorem rcands_nodup (x : Str) : (rcands x).Nodup := by
  unfold rcands
  rw [List.nodup_iff_pairwise_ne, List.pairwise_map]
  refine List.Pairwise.imp_of_mem ?_ List.pairwise_lt_range
  intro a b ha hb hab e
  have ha := List.mem_range.mp ha
  have hb := List.mem_range.mp hb
  have h := congrArg (fun z : Str => z.cps.toList) e
  simp only [sign_app_tl] at h
  injection h with h _
  omega
theorem rcand_nm {i : Nat} (hi : i < 26) : Nm ((⟨#[122 - i]⟩ : Str) ++ Str.ofString "zz") := by
  have e : ((⟨#[122 - i]⟩ : Str) ++ Str.ofString "zz").cps.toList = (122 - i) :: [122, 122] := by
    rw [sign_app_tl]
    have : (Str.ofString "zz").cps.toList = [122, 122] := by decide +kernel
    rw [this]
  refine ⟨fun c hc => ?_, ?_, ?_⟩
  · rw [e] at hc
    rcases List.mem_cons.mp hc with rfl | hc
    · omega
    · rcases List.mem_cons.mp hc with rfl | hc
      · omega
      · rw [List.mem_singleton.mp hc]
        omega
  · rw [len_tl', e]
    exact Nat.zero_lt_succ _
  · rw [len_tl', e]
    show 3 ≤ 8
    omega
theorem filter_free {α : Type} [DecidableEq α] {cs ds : List α} (hn : cs.Nodup) (h : ds.length < cs.length) : 0 < (cs.filter fun x => decide (x ∉ ds)).length := by
  obtain ⟨c, hc, hd⟩ := free_in hn h
  exact List.length_pos_of_mem (List.mem_filter.mpr ⟨hc, decide_eq_true hd⟩)
theorem take_filter_snoc {α : Type} (f : α → Bool) {xs : List α} {i : Nat} {x : α} (h : xs[i]? = some x) : (xs.take (i + 1)).filter f = (xs.take i).filter f ++ (if f x = true then [x] else []) := by
  rw [List.take_add_one, h, List.filter_append]
  show _ ++ List.filter f [x] = _
  cases hf : f x
  · rw [List.filter_cons_of_neg (by rw [hf]; exact Bool.false_ne_true), if_neg Bool.false_ne_true]
    rfl
  · rw [List.filter_cons_of_pos hf, if_pos rfl]
    rfl
theorem map_str_get {xs : List Str} {i : Nat} {x : V} (h : (xs.map V.str)[i]? = some x) : ∃ w, xs[i]? = some w ∧ x = .str w := by
  rw [List.getElem?_map] at h
  cases hx : xs[i]? with
  | none => rw [hx] at h; cases h
  | some w => rw [hx] at h; exact ⟨w, rfl, by injection h with h; exact h.symm⟩
end UW

namespace UW
open PySem L2
/-- [z1, ..][take(bag, k)], the menu just laid at l -/
theorem pick_menu {K : PySem.W.Frag} {H : Hp} {p l : Addr} {n : Nat} (zs : List V) {k : Int} {Q : VK} {E' : XK} (B : Bag n H p) (hn : n < 900000000) (hl : H l = none) (hk : k = (zs.length : Int)) (hz0 : 0 < zs.length) (hz1 : zs.length < 1000)
    (q : ∀ (z : V) H', z ∈ zs → Bag (n + 1) H' p → Kp p H H' → Q z H') :
    spTake [.ref p, .int k] (upd H l (.lst zs)) (fun v H2 => rIxL K (.ref l) v H2 Q) E' := by
  subst hk
  generalize hE : upd H l _ = H1
  have k1 := new_at hE
  have s1 := new_same hE hl
  have npl := B.ne hl
  refine take_of (B.same s1) (by omega) (by omega) (by omega) fun r H2 r0 r1 B2 kp2 => ?_
  obtain ⟨j, rfl⟩ := Int.eq_ofNat_of_zero_le r0
  have hj : j < zs.length := by omega
  refine ⟨l, _, _, zs[j], rfl, rfl, SqL.of (kp2 _ _ k1 npl.symm), atI_nat (List.getElem?_eq_getElem hj), ?_⟩
  exact q _ H2 (List.getElem_mem hj) B2 ((Kp.of s1).trans kp2)
theorem mix_ok {ns ss zs : List Str} {w : Str} (hn : ns.Nodup) (hs : ss.Nodup) (hm : ∀ x ∈ ns, Nm x) (ht : ∀ x ∈ ss, Nm x ∧ x ∉ ns) (h1 : ns.length ≤ 20) (h2 : ss.length ≤ 2) (hw : w ∈ ns) (hz : zs.Sublist ss) :
    ((ns.filter fun x => decide (x ≠ w)) ++ zs).Nodup ∧ ((ns.filter fun x => decide (x ≠ w)) ++ zs).length ≤ 100 ∧ (∀ x ∈ (ns.filter fun x => decide (x ≠ w)) ++ zs, Nm x) ∧ ∀ x ∈ (ns.filter fun x => decide (x ≠ w)) ++ zs, (x ∈ ns ∨ x ∈ ss) ∧ x ≠ w := by
  have key : ∀ x ∈ (ns.filter fun x => decide (x ≠ w)) ++ zs, Nm x ∧ (x ∈ ns ∨ x ∈ ss) ∧ x ≠ w := fun x hx => by
    rcases List.mem_append.mp hx with hx | hx
    · obtain ⟨a, b⟩ := List.mem_filter.mp hx
      exact ⟨hm x a, .inl a, of_decide_eq_true b⟩
    · have hx' := hz.subset hx
      exact ⟨(ht x hx').1, .inr hx', fun e => (ht x hx').2 (e ▸ hw)⟩
  refine ⟨List.nodup_append.mpr ⟨List.Nodup.sublist List.filter_sublist hn, List.Nodup.sublist hz hs, fun a ha b hb e => ?_⟩, ?_, fun x hx => (key x hx).1, fun x hx => (key x hx).2⟩
  · exact (ht b (hz.subset hb)).2 (e ▸ (List.mem_filter.mp ha).1)
  · rw [List.length_append]
    have := hz.length_le
    have := List.length_filter_le (fun x => decide (x ≠ w)) ns
    omega
end UW

namespace UW
open PySem L2
theorem tup_same {K : PySem.W.Frag} {H H' : Hp} {a : Addr} {xs : List V} (e : Same H H') (h : SqT K H a xs) : SqT K H' a xs := SqT.ext h e
/-- what isn't a tuple, nor a frozen one -/
def NotTp (H : Hp) (q : Addr) : Prop := ∀ xs, H q ≠ some (.tup xs) ∧ ∀ o, H q ≠ some (.frz o (.tup xs))
theorem NotTp.lst {H : Hp} {q : Addr} {xs : List V} (h : H q = some (.lst xs)) : NotTp H q := fun ys => ⟨(fun e => by rw [h] at e; cases e), (fun o e => by rw [h] at e; cases e)⟩
theorem NotTp.dK {H : Hp} {q : Addr} {xs : List (Key × V)} (h : H q = some (.dK xs)) : NotTp H q := fun ys => ⟨(fun e => by rw [h] at e; cases e), (fun o e => by rw [h] at e; cases e)⟩
theorem NotTp.ins {H : Hp} {q C dx : Addr} {fs : List (Str × V)} (h : H q = some (.ins C dx fs)) : NotTp H q := fun ys => ⟨(fun e => by rw [h] at e; cases e), (fun o e => by rw [h] at e; cases e)⟩
theorem Bag.notTp {n : Nat} {H : Hp} {p : Addr} (b : Bag n H p) : NotTp H p := by
  obtain ⟨_, _, _, h, _⟩ := b.ex
  exact .lst h
theorem Kp.tup {K : PySem.W.Frag} {H H' : Hp} {q a : Addr} {xs : List V} (k : Kp q H H') (n : NotTp H q) (h : SqT K H a xs) : SqT K H' a xs := by
  rcases h with (h | ⟨o, h⟩) | h
  · exact .inl (.inl (k _ _ h fun e => (n xs).1 (e ▸ h)))
  · exact .inl (.inr ⟨o, k _ _ h fun e => (n xs).2 o (e ▸ h)⟩)
  · exact .inr h
end UW

namespace UW
open PySem L2
theorem shaped_strsT {xs : List Str} (h : ∀ x ∈ xs, PyData.strOk x = true) : SeqAt.shaped (.tuple (xs.map PyData.str)) = true := by
  have := shaped_strs h
  unfold SeqAt.shaped at *
  simp only [PyData.canLay0, PyData.depth] at *
  exact this
theorem eqD_strsT {K : PySem.W.Frag} {H : Hp} {a b : Addr} {xs ys : List Str} {Q : VK} (h1 : SqT K H a (xs.map V.str)) (h2 : SqT K H b (ys.map V.str)) (hx : ∀ x ∈ xs, PyData.strOk x = true) (hy : ∀ y ∈ ys, PyData.strOk y = true) (q : Q (.bl (decide (xs = ys))) H) : rEqD K (.ref a) (.ref b) H Q := by
  refine ⟨_, _, .tup h1 (dpAll_strs xs), .tup h2 (dpAll_strs ys), shaped_strsT hx, shaped_strsT hy, ?_⟩
  have e : PyData.eqv (.tuple (xs.map PyData.str)) (.tuple (ys.map PyData.str)) = decide (xs = ys) := by
    simp only [PyData.eqv]
    exact eqvAll_strs xs ys
  rw [e]
  exact q
theorem dec_str {x y : Str} : decide (V.str x = V.str y) = decide (x = y) := decide_eq_decide.mpr ⟨fun e => by cases e; rfl, fun e => by rw [e]⟩
theorem dec_optV {x y : Option Str} : decide (optV x = optV y) = decide (x = y) := decide_eq_decide.mpr ⟨fun e => by
  cases x with
  | none => cases y with
    | none => rfl
    | some y => cases e
  | some x => cases y with
    | none => cases e
    | some y => cases e; rfl, fun e => by rw [e]⟩
theorem scal_optV (x y : Option Str) : scal (optV x) (optV y) = true := by
  cases x <;> cases y <;> rfl
end UW

namespace UW
open PySem L2
theorem neF {x : V} {A B : Prop} (h : B) : if (!decide (x = x)) = true then A else B := by
  rw [decide_eq_true rfl]
  exact iteF h
theorem eqv_strsT (xs : List Str) : PyData.eqv (.tuple (xs.map PyData.str)) (.tuple (xs.map PyData.str)) = true := by
  simp only [PyData.eqv]
  rw [eqvAll_strs]
  exact decide_eq_true rfl
theorem neD_quad {K : PySem.W.Frag} {H : Hp} {l l' a1 a2 a3 a4 b1 b2 b3 b4 : Addr} {x1 x2 x3 x4 : List Str} {Q : VK} (hl : SqL K H l [.ref a1, .ref a2, .ref a3, .ref a4]) (hl' : SqL K H l' [.ref b1, .ref b2, .ref b3, .ref b4])
    (h1 : SqT K H a1 (x1.map V.str)) (h2 : SqT K H a2 (x2.map V.str)) (h3 : SqT K H a3 (x3.map V.str)) (h4 : SqT K H a4 (x4.map V.str)) (g1 : SqT K H b1 (x1.map V.str)) (g2 : SqT K H b2 (x2.map V.str)) (g3 : SqT K H b3 (x3.map V.str)) (g4 : SqT K H b4 (x4.map V.str))
    (k1 : ∀ x ∈ x1, PyData.strOk x = true) (k2 : ∀ x ∈ x2, PyData.strOk x = true) (k3 : ∀ x ∈ x3, PyData.strOk x = true) (k4 : ∀ x ∈ x4, PyData.strOk x = true) (q : Q (.bl false) H) : rNeD K (.ref l) (.ref l') H Q := by
  have sh : SeqAt.shaped (.list [.tuple (x1.map PyData.str), .tuple (x2.map PyData.str), .tuple (x3.map PyData.str), .tuple (x4.map PyData.str)]) = true := by
    refine Bool.and_eq_true_iff.mpr ⟨?_, decide_eq_true ?_⟩
    · simp only [PyData.canLay0, PyData.canLayAll0]
      rw [(layAll_strs k1).1, (layAll_strs k2).1, (layAll_strs k3).1, (layAll_strs k4).1]
      rfl
    · simp only [PyData.depth, PyData.depthAll]
      rw [(layAll_strs k1).2, (layAll_strs k2).2, (layAll_strs k3).2, (layAll_strs k4).2]
      decide
  refine ⟨_, _, .lst hl (.cons (.tup h1 (dpAll_strs x1)) (.cons (.tup h2 (dpAll_strs x2)) (.cons (.tup h3 (dpAll_strs x3)) (.cons (.tup h4 (dpAll_strs x4)) .nil)))), .lst hl' (.cons (.tup g1 (dpAll_strs x1)) (.cons (.tup g2 (dpAll_strs x2)) (.cons (.tup g3 (dpAll_strs x3)) (.cons (.tup g4 (dpAll_strs x4)) .nil)))), sh, sh, ?_⟩
  have e : PyData.eqv (.list [.tuple (x1.map PyData.str), .tuple (x2.map PyData.str), .tuple (x3.map PyData.str), .tuple (x4.map PyData.str)]) (.list [.tuple (x1.map PyData.str), .tuple (x2.map PyData.str), .tuple (x3.map PyData.str), .tuple (x4.map PyData.str)]) = true := by
    rw [show ∀ xs ys, PyData.eqv (.list xs) (.list ys) = PyData.eqvAll xs ys from fun xs ys => by simp only [PyData.eqv]]
    simp only [PyData.eqvAll]
    rw [eqv_strsT, eqv_strsT, eqv_strsT, eqv_strsT]
    rfl
  rw [e]
  exact q
end UW
namespace UW
open PySem PySem.Spec PyProof.Rows L2
section
variable {prog : Program} {w : World} {A : Around} {E : Value → Shared → Prop} {s : Shared}
theorem adjust_back (n : Nat) : Builtin.Slice.sliceAdjust none none (-1) (n : Int) = ((n : Int) - 1, -1) := rfl
theorem places_back (n : Nat) : Builtin.Slice.slicePlaces ((n : Int) - 1) (-1) (-1) = n := by
  unfold Builtin.Slice.slicePlaces
  rw [if_neg (by decide), show (- -1 : Int) = 1 by decide, Int.ediv_one]
  split <;> omega
theorem applied_back {sl : Addr} {vs : Value} {n : Nat} {Q : Int × Int × Nat → Shared → Prop} (hs : s.heap.IsSliceOf sl .none .none vs) (ps : IsPart vs (some (-1))) (h : Q ((n : Int) - 1, -1, n) s) :
    wpAny (model prog w) A (Builtin.Slice.sliceApplied (.ref sl) (pure (n : Int))) Q E s := by
  obtain ⟨os, hos, _, hds⟩ := id hs
  unfold Builtin.Slice.sliceApplied Builtin.Slice.sliceFields
  refine wpAny_bind (wpAny_bind (wpAny_field hos hds (x := .none) rfl (wpAny_bind (wpAny_field hos hds (x := .none) rfl (wpAny_bind (wpAny_field hos hds (x := vs) rfl (wpAny_pure ?_)))))))
  refine wpAny_bind (HT.slicePart_ ps ?_)
  show wpAny _ _ (if ((-1 : Int) == 0) = true then _ else _) _ _ s
  rw [if_neg (by decide)]
  refine wpAny_bind (slicePart_none (wpAny_bind (slicePart_none (wpAny_bind (wpAny_pure ?_)))))
  show wpAny _ _ (pure ((n : Int) - 1, (-1 : Int), Builtin.Slice.slicePlaces ((n : Int) - 1) (-1) (-1))) _ _ s
  rw [places_back]
  exact wpAny_pure h
theorem fm_congr {α β : Type} {f g : α → Option β} : ∀ {l : List α}, (∀ x ∈ l, f x = g x) → l.filterMap f = l.filterMap g
  | [], _ => rfl
  | x :: l, h => by rw [List.filterMap_cons, List.filterMap_cons, h x (List.mem_cons_self ..), fm_congr fun y hy => h y (List.mem_cons_of_mem _ hy)]
theorem pick_back (xs : Array Value) : ((List.range xs.size).filterMap fun (m : Nat) => xs[((xs.size : Int) - 1 + (m : Int) * (-1)).toNat]?).toArray = xs.toList.reverse.toArray := by
  have e : (List.range xs.size).filterMap (fun (m : Nat) => xs[((xs.size : Int) - 1 + (m : Int) * (-1)).toNat]?) = ((List.range xs.size).map fun k => xs.size - 1 - k).filterMap (xs[·]?) := by
    rw [List.filterMap_map]
    refine fm_congr fun m hm => ?_
    have : ((xs.size : Int) - 1 + (m : Int) * (-1)).toNat = xs.size - 1 - m := by
      have := List.mem_range.mp hm
      omega
    show xs[_]? = xs[_]?
    rw [this]
  rw [e, PySem.W.krv_range, List.filterMap_reverse, PySem.W.krv_all]
theorem getItem_back {t sl : Addr} {items : Array Value} {vs : Value} {Q : Value → Shared → Prop} (ht : IsTup s.heap t items) (hs : s.heap.IsSliceOf sl .none .none vs) (ps : IsPart vs (some (-1)))
    (h : Q (.ref s.heap.objs.size) { s with heap := s.heap.push { cls := .type "tuple", data := .seq items.toList.reverse.toArray } }) (hsz : items.size ≤ sizeLine) : wpAny (model prog w) A (getItem (.ref t) (.ref sl)) Q E s := by
  have hok : sizeOk (.seq items.toList.reverse.toArray) := by
    show items.toList.reverse.toArray.size ≤ sizeLine
    rw [List.size_toArray, List.length_reverse, Array.length_toList]
    exact hsz
  have hTs : s.TypeIs (.ref sl) "slice" := by
    obtain ⟨os, hos, hcs, _⟩ := id hs
    exact ⟨os, hos, hcs⟩
  unfold getItem
  try with_reducible refine wpAny_holding ?_
  first | refine wpAny_bind (wpAny_pure ?_) | skip
  refine wpAny_bind (wpAny_sequenceKey ht.typeIs (by decide) ?_)
  refine wpAny_bind (wpAny_callSpecial?_slot (name := Str.ofString "__getitem__") ht.typeIs PyProof.Rows.slot_tuple_getitem
    (wpAny_call_entry PyProof.Rows.slot_tuple_getitem ht.typeIs entry_tuple_getitem ?_ (args_tuple_getitem _ _)))
  show wpAny _ _ (Builtin.Tuple.tupleItemsOf (.ref t) >>= _) _ _ s
  refine wpAny_bind (tupleItemsOf_ ht (wpAny_bind (wpAny_typeOf hTs ?_)))
  rw [if_pos (by decide)]
  refine wpAny_bind (applied_back hs ps ?_)
  show wpAny _ _ (if (((items.size : Int) - 1) == 0 && (-1 : Int) == 1 && items.size == items.size) = true then _ else _) _ _ s
  rw [if_neg (by rw [show ((-1 : Int) == 1) = false from rfl, Bool.and_false, Bool.false_and]; exact Bool.false_ne_true), pick_back]
  exact wpAny_bind (m := Builtin.Tuple.tupleExact _) (wpAny_newObj_type (wpAny_pure ⟨_, rfl, wpAny_pure h⟩) hok)
end
section
variable {X : Cx}
def tRevT (K : PySem.W.Frag) (te : TE) : TE := fun σ H Q => te σ H fun x H1 => ∃ a xs, x = .ref a ∧ SqT K H1 a xs ∧ ∀ p, H1 p = none → Q (.ref p) (upd H1 p (.tup xs.reverse))
theorem pe_revT {e : Expr} {te : TE} {k : Nat} {p1 p2 p3 pos : Pos} (he : PE X e te) : PE X (.Subscript e (.Slice none none (some (.UnaryOp .USub (.Constant (.int 1) k p1) p2)) p3) pos) (tRevT X.K te) := by
  refine ⟨fun pins s σ H Q I h => Subscript_ (thn (he.run pins s σ H _ I h) fun v s1 ⟨x, H1, I1, r1, q1⟩ => ?_)⟩
  obtain ⟨a, xs, ex, hx, q⟩ := q1
  subst ex
  cases r1
  have hst : PO X (some (.UnaryOp .USub (.Constant (.int 1) k p1) p2)) (tPart (tUn (rU fun i => .int (-i)) (tC (.int 1)))) := po_some (pe_un un_neg pe_int)
  refine wpAny_Slice (thn (po_none.run pins s1 σ H1 (fun o H2 => o = none ∧ H2 = H1) I1 ⟨rfl, rfl⟩) fun vl s2 ⟨l, H2, I2, pl, el, e2⟩ => ?_)
  subst el e2
  refine thn (po_none.run pins s2 σ H2 (fun o H3 => o = none ∧ H3 = H2) I2 ⟨rfl, rfl⟩) fun vu s3 ⟨u, H3, I3, pu, eu, e3⟩ => ?_
  subst eu e3
  refine thn (hst.run pins s3 σ H3 (fun o H4 => o = some (-1) ∧ H4 = H3) I3 ⟨1, rfl, -1, rfl, rfl, rfl⟩) fun vs s4 ⟨o, H4, I4, ps, eo, e4⟩ => ?_
  subst eo e4
  cases pl
  cases pu
  have I5 : Inv X pins σ H4 { s4 with heap := s4.heap.push { cls := .type "slice", data := .fields #[.none, .none, vs] } } := I4.kept (t' := s4.toks) fun b ob q => Heap.get?_push_of_some _ q
  obtain ⟨its, r, ht, hz⟩ := I5.tuple hx
  have hlen := r.length
  show wpAny (model X.prog X.w) X.A (subscriptTail e (.Slice none none (some (.UnaryOp .USub (.Constant (.int 1) k p1) p2)) p3) (.ref a) (.ref s4.heap.objs.size)) (EP X pins σ Q) X.xe { s4 with heap := s4.heap.push { cls := .type "slice", data := .fields #[.none, .none, vs] } }
  refine tail_any (ops := [.ref a, .ref s4.heap.objs.size]) ht.typeIs (PyProof.Rows.slot_tuple_getitem.lookup) ?_ (by with_unfolding_all rfl)
  refine getItem_back ht (Heap.IsSliceOf.new _ .none .none vs) ps ?_ (by rw [List.size_toArray]; omega)
  refine ⟨.ref _, _, I5.laid (t' := s4.toks) (o := .tup xs.reverse) (fun b ob q => Heap.get?_push_of_some _ q) (Nat.le_refl _) ?_, rfl, q _ (I5.hok.fresh (Nat.le_refl _))⟩
  exact ⟨by rw [List.length_reverse]; exact hz, _, r.reverse, IsTup.new _ _⟩
end
end UW

namespace UW
open PySem L2
theorem inV_mem (y : Str) (us : List V) : inV (.str y) us = true ↔ V.str y ∈ us := by
  unfold inV
  rw [List.any_eq_true]
  refine ⟨fun ⟨v, hv, e⟩ => ?_, fun h => ⟨_, h, by simp [eqV]⟩⟩
  have : v = .str y := by
    cases v <;> simp [eqV] at e
    rw [e]
  exact this ▸ hv
/-- the candidates that aren't among the given things -/
def frees (x : Str) (us : List V) : List Str := (cands x).filter fun y => !inV (.str y) us
theorem frees_ok {x : Str} {us : List V} {ds : List Str} (h : ∀ y, V.str y ∈ us → y ∈ ds) (hl : ds.length < 26) : ∃ z zs, frees x us = z :: zs ∧ V.str z ∉ us ∧ z ∈ cands x := by
  obtain ⟨c, hc, hd⟩ := free_in (cands_nodup x) (ds := ds) (by unfold cands; rw [List.length_map, List.length_range]; exact hl)
  have hm : c ∈ frees x us := List.mem_filter.mpr ⟨hc, by
    cases he : inV (.str c) us
    · rfl
    · exact absurd (h c ((inV_mem c us).mp he)) hd⟩
  cases hf : frees x us with
  | nil => rw [hf] at hm; cases hm
  | cons z zs =>
    have hz : z ∈ frees x us := by rw [hf]; exact List.mem_cons_self ..
    obtain ⟨h1, h2⟩ := List.mem_filter.mp hz
    refine ⟨z, zs, rfl, fun e => ?_, h1⟩
    rw [(inV_mem z us).mpr e] at h2
    exact Bool.false_ne_true h2
theorem cand_len {x z : Str} (h : z ∈ cands x) : z.length = 1 + x.length := by
  obtain ⟨i, _, rfl⟩ := List.mem_map.mp h
  rw [len_tl', sign_app_tl, List.length_cons, ← len_tl']
  omega
end UW
/-! own layer: objects with their own ==, !=, in, str, repr -/
namespace UO
open PySem PySem.Spec PyProof.Rows L2

section
variable {X : Cx} {CX : CXT} {n : Nat} {f C : Addr} {fd : FuncData} {ps : List Str} {sp : Sp} {E : XK}
/-- a def called from within a builtin -/
theorem call_sub (F : FnOk X.prog X.w X.K X.mg X.base CX n f fd ps sp) (hb : Binds X.K fd ps []) (hx : Passes CX X E) {A : Around} (sb : Sub X n A) {pins : List (Addr × Obj)} {σ : L2.St} {H : Hp} {s : Shared} (I : L2.Inv X pins σ H s)
    {vs : List V} {us : List Value} (r : Vals vs us) {Q : VK} (h : sp vs H Q E) : wpAny (model X.prog X.w) A (call (.ref f) us) (EP X pins σ Q) X.xe s := by
  have e0 : Env0 X.prog X.w X.K X.mg X.base A X.stack s H := by
    have e := I.env0
    exact ⟨by rw [sb.fr]; exact e.frames, e.mod, e.bs, e.bsz, e.funs, e.frf, e.hok, e.bare⟩
  have hl := F.len _ _ _ _ h
  refine wpAny_call (codeAny_mono (F.run A X.stack s H ⟨us, []⟩ us vs _ E sb.room e0 (by
    have := hb s us I.kIn (by rw [List.append_nil, ← r.length]; exact hl)
    rw [List.append_nil] at this
    exact this) r h) fun r s' hq => ?_)
  cases r with
  | error e => exact hx pins σ H s e s' I hq
  | ok fl =>
    cases fl with
    | ret w => exact I.after hq
    | next => exact False.elim hq
    | brk => exact False.elim hq
    | cont => exact False.elim hq

/-- == of two values, by what is asked of them: a truth, and the heap behind it -/
def RcO (X : Cx) (n : Nat) (r : R2) : Prop :=
  ∀ (A : Around) (pins : List (Addr × Obj)) (s : Shared) (σ : L2.St) (H : Hp) (x y : V) (u v : Value) (Q : VK), Sub X n A → L2.Inv X pins σ H s → RelV x u → RelV y v → r x y H Q →
    wpAny (model X.prog X.w) A (richCompare .Eq u v) (fun t s' => ∃ b H', t = .bool b ∧ L2.Inv X pins σ H' s' ∧ Q (.bl b) H') X.xe s
def EqO (X : Cx) (n : Nat) (r : R2) : Prop :=
  ∀ (A : Around) (pins : List (Addr × Obj)) (s : Shared) (σ : L2.St) (H : Hp) (x y : V) (u v : Value) (Q : VK), Sub X n A → L2.Inv X pins σ H s → RelV x u → RelV y v → r x y H Q →
    wpAny (model X.prog X.w) A (eqBool u v) (fun b s' => ∃ H', L2.Inv X pins σ H' s' ∧ Q (.bl b) H') X.xe s
theorem op_rc {r : R2} (h : RcO X n r) (hr : Room n X.A) : OpR X (compareOp .Eq) r := by
  intro pins s σ H x y v u Q I rx ry hq
  show wpAny (model X.prog X.w) X.A (richCompare .Eq v u) (EP X pins σ Q) X.xe s
  refine wpAny_mono (h X.A pins s σ H x y v u Q ⟨hr, rfl⟩ I rx ry hq) (fun t s' z => ?_) fun _ _ x => x
  obtain ⟨b, H', rfl, I', q⟩ := z
  exact ⟨.bl b, H', I', rfl, q⟩
/-- two values that are not one object -/
def apart : V → V → Prop
  | .ref a, .ref b => a ≠ b
  | .ref _, .flt _ => False
  | .flt _, _ => False
  | .ref _, _ => True
  | _, .ref _ => True
  | _, _ => False
theorem eqBool_apart {prog : Program} {w : World} {A : Around} {E : Value → Shared → Prop} {s : Shared} {u v : Value} {x y : V} {Q : Bool → Shared → Prop} (ha : apart x y) (rx : RelV x u) (ry : RelV y v)
    (h : wpAny (model prog w) A (richCompare .Eq u v) (fun t s' => ∃ b, t = .bool b ∧ Q b s') E s) : wpAny (model prog w) A (eqBool u v) Q E s := by
  have fin : ∀ (u v : Value), (u == v) = false → (wpAny (model prog w) A (eqBool u v) Q E s = wpAny (model prog w) A (holding [u, v] (if (u == v) = true then (do rule "eq-bool.same-object"; return true) else (do truthOfDropped (← richCompare .Eq u v)))) Q E s) →
      wpAny (model prog w) A (richCompare .Eq u v) (fun t s' => ∃ b, t = .bool b ∧ Q b s') E s → wpAny (model prog w) A (eqBool u v) Q E s := fun u v k e h => by
    rw [e]
    refine wpAny_holding ?_
    rw [k]
    show wpAny _ _ (do truthOfDropped (← richCompare .Eq u v)) _ _ _
    refine wpAny_bind (wpAny_mono h (fun t s' z => ?_) fun _ _ x => x)
    obtain ⟨b, rfl, q⟩ := z
    exact wpAny_truthy_bool q
  cases x with
  | ref a =>
    cases (show u = Value.ref a from rx)
    cases y with
    | ref b =>
      cases (show v = Value.ref b from ry)
      refine fin _ _ ?_ rfl h
      cases q : (Value.ref a == Value.ref b) with
      | false => rfl
      | true => exact absurd (by have := eq_of_beq q; injection this) ha
    | non => cases (show v = Value.none from ry); exact fin _ _ rfl rfl h
    | bl b => cases (show v = Value.bool b from ry); exact fin _ _ rfl rfl h
    | int i => obtain ⟨t, rfl⟩ := (show ∃ t, v = Value.int i t from ry); exact fin _ _ rfl rfl h
    | str z => obtain ⟨t, rfl⟩ := (show ∃ t, v = Value.str z t from ry); exact fin _ _ rfl rfl h
    | byt z => obtain ⟨t, rfl⟩ := (show ∃ t, v = Value.bytes z t from ry); exact fin _ _ rfl rfl h
    | flt z => exact False.elim ha
    | ty z => cases (show v = Value.type z from ry); exact fin _ _ rfl rfl h
  | _ =>
    cases y with
    | ref b =>
      cases (show v = Value.ref b from ry)
      first
        | exact False.elim ha
        | (cases (show u = Value.none from rx); exact fin _ _ rfl rfl h)
        | (cases (show u = Value.bool _ from rx); exact fin _ _ rfl rfl h)
        | (obtain ⟨t, rfl⟩ := (show ∃ t, u = Value.int _ t from rx); exact fin _ _ rfl rfl h)
        | (obtain ⟨t, rfl⟩ := (show ∃ t, u = Value.str _ t from rx); exact fin _ _ rfl rfl h)
        | (obtain ⟨t, rfl⟩ := (show ∃ t, u = Value.bytes _ t from rx); exact fin _ _ rfl rfl h)
        | (cases (show u = Value.type _ from rx); exact fin _ _ rfl rfl h)
    | _ => exact False.elim ha
theorem RcO.eqO {r : R2} (h : RcO X n r) (ha : ∀ x y H Q, r x y H Q → apart x y) : EqO X n r := by
  intro A pins s σ H x y u v Q sb I rx ry hq
  refine eqBool_apart (ha x y H Q hq) rx ry (wpAny_mono (h A pins s σ H x y u v Q sb I rx ry hq) (fun t s' z => ?_) fun _ _ x => x)
  obtain ⟨b, H', rfl, I', q⟩ := z
  exact ⟨b, rfl, H', I', q⟩

def rAp (r : R2) : R2 := fun x y H Q => apart x y ∧ r x y H Q
theorem RcO.ap {r : R2} (h : RcO X n r) : EqO X n (rAp r) := RcO.eqO (r := rAp r) (fun A pins s σ H x y u v Q sb I rx ry hq => h A pins s σ H x y u v Q sb I rx ry hq.2) fun x y H Q hq => hq.1

/-! ### an instance on the left -/
def rEqO (K : PySem.W.Frag) (C : Addr) (sp : Sp) (E : XK) : R2 := fun x y H Q => ∃ a dx fs t, x = .ref a ∧ H a = some (.ins C dx fs) ∧ TyX K H y t ∧ PySem.W.notFirst K C t = true ∧ sp [x, y] H (fun v H' => ∃ b, v = .bl b ∧ Q (.bl b) H') E
theorem rc_left (F : FnOk X.prog X.w X.K X.mg X.base CX n f fd ps sp) (hs : PySem.W.findIn X.K (.ref C) "__eq__" = some (some (.ref f))) (hf : PySem.W.isFn X.K (.ref f) = true) (hb : Binds X.K fd ps []) (hx : Passes CX X E) : RcO X n (rEqO X.K C sp E) := by
  intro A pins s σ H x y u v Q sb I rx ry hq
  obtain ⟨a, dx, fs, t, rfl, ha, ty, hn, q⟩ := hq
  cases rx
  obtain ⟨mA, J, _⟩ := ins_get I.hok ha
  obtain ⟨od, J, _⟩ := J.look
  obtain ⟨m, hF⟩ := I.fr
  obtain ⟨P, Z, p, _⟩ := kit_of I ry ty
  refine PySem.W.cmp_K (op := .Eq) (tb := t) sb.room.units0 hF I.ok.mod.kin J (Z.ty _ _ I.kIn p) hn hs hf ?_
  have r2 : Vals [V.ref a, y] [Value.ref a, v] := .cons rfl (.cons ry .nil)
  refine wpAny_mono (call_sub F hb hx sb I r2 q) (fun r s' z => ?_) fun _ _ x => x
  obtain ⟨z, H', I', rz, b, rfl, q'⟩ := z
  cases (show r = Value.bool b from rz)
  exact ⟨b, H', rfl, I', q'⟩
end

/-! ### built-in values that decline to be compared with an instance -/
section
open AutoSeq1 (wpAny_loadPart')
open MeetsSeq
theorem int_declines (b : Int) (u : Tok) (l C dx : Addr) : Meets (Builtin.«int.__eq__» ⟨[.int b u, .ref l], []⟩) (fun _ R s => s.heap.get? l = some (PySem.W.instObj C dx) ∧ R (.ok (.ret .notImplemented)) s) :=
  .of_wp fun prog w A R s h => by obtain ⟨hp, g, d, tk, os⟩ := s; obtain ⟨hl, h⟩ := h; unfold PySem.W.instObj at hl; wp_walk using wpAny_loadPart' hl, wpAny_load hl; exact ⟨_, rfl, h⟩
theorem bool_declines (b : Bool) (l C dx : Addr) : Meets (Builtin.«int.__eq__» ⟨[.bool b, .ref l], []⟩) (fun _ R s => s.heap.get? l = some (PySem.W.instObj C dx) ∧ R (.ok (.ret .notImplemented)) s) :=
  .of_wp fun prog w A R s h => by obtain ⟨hp, g, d, tk, os⟩ := s; obtain ⟨hl, h⟩ := h; unfold PySem.W.instObj at hl; wp_walk using wpAny_loadPart' hl, wpAny_load hl; exact ⟨_, rfl, h⟩
theorem str_declines (b : Str) (u : Tok) (l C dx : Addr) : Meets (Builtin.«str.__eq__» ⟨[.str b u, .ref l], []⟩) (fun _ R s => s.heap.get? l = some (PySem.W.instObj C dx) ∧ R (.ok (.ret .notImplemented)) s) :=
  .of_wp fun prog w A R s h => by obtain ⟨hp, g, d, tk, os⟩ := s; obtain ⟨hl, h⟩ := h; unfold PySem.W.instObj at hl; wp_walk using wpAny_loadPart' hl, wpAny_load hl; exact ⟨_, rfl, h⟩
theorem list_declines (p l C dx : Addr) (items : Array Value) (k : Nat) (dd : Option Addr) (sl : Array (Option Value)) : Meets (Builtin.«list.__eq__» ⟨[.ref p, .ref l], []⟩)
    (fun A R s => s.heap.get? p = some { cls := .type "list", dict := dd, data := .seq items k, slots := sl } ∧ s.heap.get? l = some (PySem.W.instObj C dx) ∧ (∀ M : Model, PySem.W.Looks M s.heap (isSubtype (.ref C) (.type "list")) false) ∧ R (.ok (.ret .notImplemented)) s) :=
  .of_wp fun prog w A R s h => by
    obtain ⟨hp, g, d, tk, os⟩ := s
    obtain ⟨h1, hl, hs, h⟩ := h
    unfold PySem.W.instObj at hl
    have f1 : ∀ {A : Around} {E : Value → Shared → Prop} {Q : Bool → Shared → Prop}, Q false ⟨hp, g, d, tk, os⟩ → wpAny (model prog w) A (isSubtype (.ref C) (.type "list")) Q E ⟨hp, g, d, tk, os⟩ := fun q => (hs _).here q
    wp_walk using wpAny_loadPart' h1, wpAny_loadPart' hl, f1
    exact ⟨_, rfl, h⟩
theorem tuple_declines (p l C dx : Addr) (items : Array Value) (k : Nat) (dd : Option Addr) (sl : Array (Option Value)) : Meets (Builtin.«tuple.__eq__» ⟨[.ref p, .ref l], []⟩)
    (fun A R s => s.heap.get? p = some { cls := .type "tuple", dict := dd, data := .seq items k, slots := sl } ∧ s.heap.get? l = some (PySem.W.instObj C dx) ∧ (∀ M : Model, PySem.W.Looks M s.heap (isSubtype (.ref C) (.type "tuple")) false) ∧ R (.ok (.ret .notImplemented)) s) :=
  .of_wp fun prog w A R s h => by
    obtain ⟨hp, g, d, tk, os⟩ := s
    obtain ⟨h1, hl, hs, h⟩ := h
    unfold PySem.W.instObj at hl
    have f1 : ∀ {A : Around} {E : Value → Shared → Prop} {Q : Bool → Shared → Prop}, Q false ⟨hp, g, d, tk, os⟩ → wpAny (model prog w) A (isSubtype (.ref C) (.type "tuple")) Q E ⟨hp, g, d, tk, os⟩ := fun q => (hs _).here q
    wp_walk using wpAny_loadPart' h1, wpAny_loadPart' hl, f1
    exact ⟨_, rfl, h⟩
end

section
variable {X : Cx} {CX : CXT} {n : Nat} {f C : Addr} {fd : FuncData} {ps : List Str} {sp : Sp} {E : XK}
/-- a built-in value on the left that declines, an instance on the right -/
theorem rc_refl {prog : Program} {w : World} {A : Around} {E : Value → Shared → Prop} {s : Shared} {K : PySem.W.Frag} {u : Value} {b C f : Addr} {ob : Obj} {od : Option Obj} {Ta id : String} {Q : Value → Shared → Prop} (hu : A.units < cLine) (XK : K.In s.heap)
    (ha : s.TypeIs u Ta) (h1 : Slot Ta "__eq__" id) (J : PySem.W.InstAt s.heap b ob C od) (hsub : PySem.W.mroIn K C (.type Ta) = some false) (hs : PySem.W.findIn K (.ref C) "__eq__" = some (some (.ref f))) (hf : PySem.W.isFn K (.ref f) = true)
    (hc1 : ∀ Q' : Value → Shared → Prop, Q' .notImplemented s → wpAny (model prog w) A (call (.builtin id) [u, .ref b]) Q' E s)
    (hc2 : wpAny (model prog w) A (call (.ref f) [.ref b, u]) (PySem.W.CmpBack Q) E s) : wpAny (model prog w) A (richCompare .Eq u (.ref b)) Q E s := by
  rcases hi : cmpInfo CmpOp.Eq with ⟨sym, g, r⟩
  have e1 : g = ("__eq__" : Str) := by have := congrArg (fun z => z.2.1) hi; exact this.symm
  have e2 : r = ("__eq__" : Str) := by have := congrArg (fun z => z.2.2) hi; exact this.symm
  subst e1 e2
  simp only [richCompare, hi, ha.oneThing_none]
  refine wpAny_holding ?_
  refine wpAny_bind (wpAny_cRoomFor hu ?_)
  refine wpAny_bind (wpAny_typeOf ha (wpAny_bind (J.type.here ?_)))
  rw [show (Value.type Ta != Value.ref C) = true from rfl]
  simp only [if_true]
  refine wpAny_bind ((PySem.W.looks_mroIn XK hsub).here ?_)
  simp only [Bool.false_eq_true, if_false, Bool.not_false, if_true]
  refine wpAny_bind (m := tryCompare u _ (.ref b)) (wpAny_tryCompare_declines ha h1 (hc1 _ ⟨rfl, ?_⟩))
  have one : wpAny (model prog w) A (tryCompare (.ref b) "__eq__" u) (fun r s' => ∃ v, r = some v ∧ Q v s') E s := by
    unfold tryCompare
    refine wpAny_bind (PySem.W.ifBound_K XK J hs hf (wpAny_mono hc2 (fun v s' hv => ?_) fun _ _ e => e))
    cases v <;> first | exact hv.elim | exact wpAny_pure ⟨_, rfl, hv⟩
  refine wpAny_bind (m := tryCompare (.ref b) _ u) (wpAny_mono one (fun r s' z => ?_) fun _ _ e => e)
  obtain ⟨v, rfl, hq⟩ := z
  exact wpAny_pure hq
/-- the built-in type of a plain thing -/
def plainTy (H : Hp) (K : PySem.W.Frag) : V → String → Prop
  | .non, T => T = "NoneType"
  | .bl _, T => T = "bool"
  | .int _, T => T = "int"
  | .str _, T => T = "str"
  | .ref p, T => (T = "list" ∧ ∃ xs, SqL K H p xs) ∨ (T = "tuple" ∧ ∃ xs, SqT K H p xs)
  | _, _ => False
def rEqR (K : PySem.W.Frag) (C : Addr) (sp : Sp) (E : XK) : R2 := fun x y H Q => ∃ b dy gs T, y = .ref b ∧ H b = some (.ins C dy gs) ∧ plainTy H K x T ∧ PySem.W.mroIn K C (.type T) = some false ∧ sp [y, x] H (fun v H' => ∃ b, v = .bl b ∧ Q (.bl b) H') E
theorem rc_right (F : FnOk X.prog X.w X.K X.mg X.base CX n f fd ps sp) (hs : PySem.W.findIn X.K (.ref C) "__eq__" = some (some (.ref f))) (hf : PySem.W.isFn X.K (.ref f) = true) (hb : Binds X.K fd ps []) (hx : Passes CX X E) : RcO X n (rEqR X.K C sp E) := by
  intro A pins s σ H x y u v Q sb I rx ry hq
  obtain ⟨b, dy, gs, T, rfl, hb', pt, hm, q⟩ := hq
  cases ry
  obtain ⟨mA, J0, _⟩ := ins_get I.hok hb'
  have hobj := J0.obj
  obtain ⟨od, J, _⟩ := J0.look
  have hsub : ∀ M : Model, PySem.W.Looks M s.heap (isSubtype (.ref C) (.type T)) false := fun M => PySem.W.looks_mroIn I.kIn hm
  have r2 : Vals [V.ref b, x] [Value.ref b, u] := .cons rfl (.cons rx .nil)
  have back : wpAny (model X.prog X.w) A (call (.ref f) [.ref b, u]) (PySem.W.CmpBack fun t s' => ∃ b H', t = .bool b ∧ L2.Inv X pins σ H' s' ∧ Q (.bl b) H') X.xe s := by
    refine wpAny_mono (call_sub F hb hx sb I r2 q) (fun r s' z => ?_) fun _ _ x => x
    obtain ⟨z, H', I', rz, k, rfl, q'⟩ := z
    cases (show r = Value.bool k from rz)
    exact ⟨k, H', rfl, I', q'⟩
  cases x with
  | non =>
    cases (show u = Value.none from rx)
    cases (show T = "NoneType" from pt)
    exact rc_refl sb.room.units0 I.kIn rfl PySem.F.slot_NoneType_eq J hm hs hf (fun Q' hq' => call_gives PySem.F.slot_NoneType_eq rfl PySem.F.entry_NoneType_eq (PySem.F.args_NoneType_eq_2 _ _) (SeqAt.NoneType___eq___none_ref_0 b) hq') back
  | bl k =>
    cases (show u = Value.bool k from rx)
    cases (show T = "bool" from pt)
    exact rc_refl sb.room.units0 I.kIn rfl PySem.F.slot_bool_eq J hm hs hf (fun Q' hq' => call_meets PySem.F.slot_bool_eq rfl PySem.F.entry_int_eq (PySem.F.args_int_eq_2 _ _) (bool_declines k b C _) ⟨hobj, hq'⟩) back
  | int i =>
    obtain ⟨t, rfl⟩ := (show ∃ t, u = Value.int i t from rx)
    cases (show T = "int" from pt)
    exact rc_refl sb.room.units0 I.kIn (typeIs_int s i t) PySem.F.slot_int_eq J hm hs hf (fun Q' hq' => call_meets PySem.F.slot_int_eq (typeIs_int s i t) PySem.F.entry_int_eq (PySem.F.args_int_eq_2 _ _) (int_declines i t b C _) ⟨hobj, hq'⟩) back
  | str z =>
    obtain ⟨t, rfl⟩ := (show ∃ t, u = Value.str z t from rx)
    cases (show T = "str" from pt)
    exact rc_refl sb.room.units0 I.kIn (typeIs_str s z t) PySem.F.slot_str_eq J hm hs hf (fun Q' hq' => call_meets PySem.F.slot_str_eq (typeIs_str s z t) PySem.F.entry_str_eq (PySem.F.args_str_eq_2 _ _) (str_declines z t b C _) ⟨hobj, hq'⟩) back
  | ref p =>
    cases (show u = Value.ref p from rx)
    rcases pt with ⟨rfl, xs, hp⟩ | ⟨rfl, xs, hp⟩
    · obtain ⟨its, r, pl, hz⟩ := I.list hp
      obtain ⟨⟨cls, dd, data, sl⟩, ho, hc, k, hd⟩ := pl.isList
      simp only at hc hd
      subst hc hd
      exact rc_refl sb.room.units0 I.kIn ⟨_, ho, rfl⟩ PySem.F.slot_list_eq J hm hs hf (fun Q' hq' => call_meets PySem.F.slot_list_eq ⟨_, ho, rfl⟩ PySem.F.entry_list_eq (PySem.F.args_list_eq_2 _ _) (list_declines p b C _ _ _ _ _) ⟨ho, hobj, hsub, hq'⟩) back
    · obtain ⟨its, r, pl, hz⟩ := I.tuple hp
      obtain ⟨⟨cls, dd, data, sl⟩, ho, hc, k, hd⟩ := pl
      simp only at hc hd
      subst hc hd
      exact rc_refl sb.room.units0 I.kIn ⟨_, ho, rfl⟩ PySem.F.slot_tuple_eq J hm hs hf (fun Q' hq' => call_meets PySem.F.slot_tuple_eq ⟨_, ho, rfl⟩ PySem.F.entry_tuple_eq (PySem.F.args_tuple_eq_2 _ _) (tuple_declines p b C _ _ _ _ _) ⟨ho, hobj, hsub, hq'⟩) back
  | _ => exact False.elim pt
end

/-! ### != by the object's own == -/
section
variable {prog : Program} {w : World} {M : Model} {A : Around} {E : Value → Shared → Prop} {s : Shared} {K : PySem.W.Frag} {x C f : Addr} {ox : Obj} {od : Option Obj}
theorem ifBound_B {name : Str} {id : String} {args : List Value} {Q : Option Value → Shared → Prop} (XK : K.In s.heap) (I : PySem.W.InstAt s.heap x ox C od) (hs : PySem.W.findIn K (.ref C) name = some (some (.builtin id)))
    (hb : ∀ self, bindSpecial (.builtin id) self = pure (.builtin id, [self])) (h : wpAny M A (call (.builtin id) (.ref x :: args)) (fun v => Q (some v)) E s) : wpAny M A (callSpecialIfBound? (.ref x) name args) Q E s := by
  simp only [callSpecialIfBound?, bindSpecialIfBound?]
  refine wpAny_holding (wpAny_bind (wpAny_bind (wpAny_bind (I.type.here ((PySem.W.looks_findIn XK hs).here ?_)))))
  refine wpAny_bind (wpAny_askSetting (wpAny_ite ?_))
  have fin : wpAny M A (call (.builtin id) ([.ref x] ++ args) >>= fun v => pure (some v)) Q E s := wpAny_bind (wpAny_mono h (fun v s' h' => wpAny_pure h') fun _ _ h' => h')
  split
  · exact wpAny_bind ((PySem.W.Looks.of_pure (hb _)).here (wpAny_pure (by exact fin)))
  · exact wpAny_tryCatch (wpAny_bind ((PySem.W.Looks.of_pure (hb _)).here (wpAny_pure (by exact fin))))
open Builtin in
theorem call_objNe {b : Value} {Q : Value → Shared → Prop} (hu : A.in1.units < cLine) (XK : K.In s.heap) (I : PySem.W.InstAt s.heap x ox C od) (hm : PySem.W.mroIn K C (.type "object") = some true) (hs : PySem.W.findIn K (.ref C) "__eq__" = some (some (.ref f))) (hf : PySem.W.isFn K (.ref f) = true)
    (h : wpAny (model prog w) A.in1 (call (.ref f) [.ref x, b]) (fun v s' => ∃ k, v = .bool k ∧ Q (.bool (!k)) s') E s) : wpAny (model prog w) A (call (.builtin "object.__ne__") [.ref x, b]) Q E s := by
  refine wpAny_call (codeAny_call_builtin PySem.F.cmp_object.ne.plain PySem.F.cmpEntry_ne (PySem.W.check_slot (i := "object.__ne__") (owner := "object") (n := "__ne__") (by decide +kernel) (by decide +kernel) (I.type.andThen (PySem.W.looks_mroIn XK hm)) (PySem.F.cmpArgs_ne _ _) ?_))
  unfold Builtin.«object.__ne__»
  repeat (first
    | with_reducible refine wpAny_cRoomFor hu ?_
    | (refine wpAny_bind (m := callSpecialIfBound? (.ref x) (Str.ofString "__eq__") [b])
        (PySem.W.ifBound_K XK I hs hf (wpAny_mono h (fun r s' hr => by
          obtain ⟨k, rfl, hq⟩ := hr
          repeat (first | exact hq | exact wpAny_pure hq | exact wpAny_truthy_bool hq | (refine wpAny_bind (m := truthy (.bool _)) (wpAny_truthy_bool ?_)) | wp_step)) fun _ _ e => e)))
    | wp_step)
theorem ne_K {L : Addr} {h₀ : Heap} {m : Str → Option Value} {b tb : Value} {Q : Value → Shared → Prop} (hu : A.in1.units < cLine) (hu0 : A.units < cLine) (XK : K.In s.heap) (I : PySem.W.InstAt s.heap x ox C od) (hb : PySem.W.Looks (model prog w) s.heap (typeOf b) tb) (hn : PySem.W.notFirst K C tb = true)
    (hne : PySem.W.findIn K (.ref C) "__ne__" = some (some (.builtin "object.__ne__"))) (hm : PySem.W.mroIn K C (.type "object") = some true) (hs : PySem.W.findIn K (.ref C) "__eq__" = some (some (.ref f))) (hf : PySem.W.isFn K (.ref f) = true)
    (h : wpAny (model prog w) A.in1 (call (.ref f) [.ref x, b]) (fun v s' => ∃ k, v = .bool k ∧ Q (.bool (!k)) s') E s) : wpAny (model prog w) A (richCompare .NotEq (.ref x) b) Q E s := by
  have one : wpAny (model prog w) A (tryCompare (.ref x) "__ne__" b) (fun r s' => ∃ v, r = some v ∧ Q v s') E s := by
    unfold tryCompare
    refine wpAny_bind (ifBound_B XK I hne PySem.F.cmp_object.ne.bind (call_objNe hu XK I hm hs hf (wpAny_mono h (fun v s' hv => ?_) fun _ _ e => e)))
    obtain ⟨k, rfl, hq⟩ := hv
    exact ⟨k, rfl, wpAny_pure ⟨_, rfl, hq⟩⟩
  unfold richCompare
  simp only [oneThing_ref]
  refine wpAny_holding (wpAny_bind (wpAny_cRoomFor hu0 ?_))
  refine wpAny_bind (I.type.here (wpAny_bind (hb.here ?_)))
  split
  · rename_i q
    have e : PySem.W.subIn K tb (.ref C) = some false := by
      rcases Bool.or_eq_true_iff.mp hn with e | e
      · rw [beq_iff_eq.mp e] at q; simp at q
      · exact beq_iff_eq.mp e
    refine wpAny_bind ((PySem.W.looks_subIn XK e).here ?_)
    simp only [Bool.false_eq_true, if_false]
    refine wpAny_bind (wpAny_mono one (fun r s' z => ?_) fun _ _ e => e)
    obtain ⟨v, rfl, hq⟩ := z
    exact wpAny_pure hq
  · refine wpAny_bind (wpAny_pure ?_)
    simp only [Bool.false_eq_true, if_false]
    refine wpAny_bind (wpAny_mono one (fun r s' z => ?_) fun _ _ e => e)
    obtain ⟨v, rfl, hq⟩ := z
    exact wpAny_pure hq
end
section
variable {X : Cx} {CX : CXT} {n : Nat} {f C : Addr} {fd : FuncData} {ps : List Str} {sp : Sp} {E : XK}
def rNeO (K : PySem.W.Frag) (C : Addr) (sp : Sp) (E : XK) : R2 := fun x y H Q => ∃ a dx fs t, x = .ref a ∧ H a = some (.ins C dx fs) ∧ TyX K H y t ∧ PySem.W.notFirst K C t = true ∧ sp [x, y] H (fun v H' => ∃ b, v = .bl b ∧ Q (.bl (!b)) H') E
theorem op_neO (F : FnOk X.prog X.w X.K X.mg X.base CX n f fd ps sp) (hs : PySem.W.findIn X.K (.ref C) "__eq__" = some (some (.ref f))) (hf : PySem.W.isFn X.K (.ref f) = true) (hb : Binds X.K fd ps []) (hx : Passes CX X E)
    (hne : PySem.W.findIn X.K (.ref C) "__ne__" = some (some (.builtin "object.__ne__"))) (hm : PySem.W.mroIn X.K C (.type "object") = some true) (hr : Room (n + 1) X.A) : OpR X (compareOp .NotEq) (rNeO X.K C sp E) := by
  intro pins s σ H x y u v Q I rx ry hq
  obtain ⟨a, dx, fs, t, rfl, ha, ty, hn, q⟩ := hq
  cases rx
  obtain ⟨mA, J, _⟩ := ins_get I.hok ha
  obtain ⟨od, J, _⟩ := J.look
  obtain ⟨P, Z, p, _⟩ := kit_of I ry ty
  have sb : Sub X (n + 1) X.A := ⟨hr, rfl⟩
  show wpAny (model X.prog X.w) X.A (richCompare .NotEq (.ref a) v) (EP X pins σ Q) X.xe s
  have r2 : Vals [V.ref a, y] [Value.ref a, v] := .cons rfl (.cons ry .nil)
  refine ne_K (L := 0) (h₀ := s.heap) (m := fun _ => none) sb.in1.room.units0 sb.room.units0 I.kIn J (Z.ty _ _ I.kIn p) hn hne hm hs hf ?_
  refine wpAny_mono (call_sub F hb hx sb.in1 I r2 q) (fun r s' z => ?_) fun _ _ x => x
  obtain ⟨z, H', I', rz, b, rfl, q'⟩ := z
  cases (show r = Value.bool b from rz)
  exact ⟨b, rfl, .bl (!b), H', I', rfl, q'⟩
end

/-! ### x in [z], [x] == [y], (c, x) == (c, y), by ==  -/
section
open AutoSeq1 (wpAny_loadPart')
open MeetsSeq MeetsSeq2 MeetsSeq3 SeqRoads2 SeqAt
variable {prog : Program} {w : World} {A : Around} {R : Result → Shared → Prop}
/-- the list at l holds one thing -/
def One (s : Shared) (l : Addr) (z : Value) : Prop := ∃ (items : Array Value) (n : Nat), s.heap.get? l = some { cls := .type "list", data := .seq items n } ∧ items[(0 : Int).toNat]? = some z ∧ items[((0 : Int) + 1).toNat]? = none ∧ items.size = 1
theorem One.of {s : Shared} {l : Addr} {z : Value} {n : Nat} (h : s.heap.get? l = some { cls := .type "list", data := .seq #[z] n }) : One s l z := ⟨#[z], n, h, rfl, rfl, rfl⟩
theorem contains_loop1 (l : Addr) (x z : Value) {s : Shared} (h0 : One s l z) (h : R (.ok (.ret (.bool false))) s) :
    wpAny (model prog w) A.in1 (Builtin.«list.__contains__.loop» ⟨[.ref l, x, rawInt ((0 : Int) + 1)], []⟩) (GQ.FinOf prog w A R) (fun e s' => R (.error e) s') s := by
  obtain ⟨items, n, hl, e0, e1, _⟩ := h0
  obtain ⟨hp, g, d, tk, os⟩ := s
  wp_walk using wpAny_loadPart' hl
  rw [e1]
  wp_walk
  exact h
theorem contains1 (l : Addr) (x z : Value) {s : Shared} (h0 : One s l z)
    (he : wpAny (model prog w) A.in1 (eqBool z x) (fun b s' => (∃ z', One s' l z') ∧ R (.ok (.ret (.bool b))) s') (fun e s' => R (.error e) s') s) :
    wpAny (model prog w) A.in1 (Builtin.«list.__contains__» ⟨[.ref l, x], []⟩) (GQ.FinOf prog w A R) (fun e s' => R (.error e) s') s := by
  have step : wpAny (model prog w) A.in1 (Builtin.«list.__contains__.loop» ⟨[.ref l, x, rawInt (0 : Int)], []⟩) (GQ.FinOf prog w A R) (fun e s' => R (.error e) s') s := by
    obtain ⟨items, n, hl, e0, e1, _⟩ := h0
    obtain ⟨hp, g, d, tk, os⟩ := s
    wp_walk using wpAny_loadPart' hl
    rw [e0]
    refine wpAny_bind (wpAny_mono he (fun b s2 h2 => ?_) fun _ _ x => x)
    obtain ⟨⟨z', p2⟩, q2⟩ := h2
    cases b with
    | true =>
      wp_walk
      exact q2
    | false =>
      have nx := contains_loop1 (A := A) (w := w) (prog := prog) (R := R) l x z' p2 q2
      obtain ⟨hp2, g2, d2, tk2, os2⟩ := s2
      wp_walk
      exact ⟨plainId_quiet plain_contains_loop _, codeAny_builtin entry_contains_loop (by
        rw [Around.under_plainId plain_contains_loop _]
        exact nx)⟩
  obtain ⟨items, n, hl, e0, e1, _⟩ := h0
  obtain ⟨hp, g, d, tk, os⟩ := s
  wp_walk using wpAny_loadPart' hl
  exact ⟨plainId_quiet plain_contains_loop _, codeAny_builtin entry_contains_loop (by
    rw [Around.under_plainId plain_contains_loop _]
    exact step)⟩
theorem eq_list1_loop (l b : Addr) (x y : Value) {s : Shared} (h0 : One s l x ∧ One s b y) (h : R (.ok (.ret (.bool true))) s) :
    wpAny (model prog w) A.in1 (Builtin.«list.__eq__.loop» ⟨[.ref l, .ref b, rawInt ((0 : Int) + 1), rawInt 2], []⟩) (GQ.FinOf prog w A R) (fun e s' => R (.error e) s') s := by
  obtain ⟨⟨items, n, hl, e0, e1, z1⟩, items2, n2, hb, f0, f1, z2⟩ := h0
  obtain ⟨hp, g, d, tk, os⟩ := s
  wp_walk using wpAny_loadPart' hl, wpAny_loadPart' hb
  rw [e1, f1]
  wp_walk using wpAny_loadPart' hl, wpAny_loadPart' hb
  show R (.ok (.ret (.bool (items.size == items2.size)))) _
  rw [z1, z2]
  exact h
theorem eq_list1 (l b : Addr) (x y : Value) {s : Shared} (h0 : One s l x ∧ One s b y)
    (he : wpAny (model prog w) A.in1 (eqBool x y) (fun k s' => (∃ x' y', One s' l x' ∧ One s' b y') ∧ R (.ok (.ret (.bool k))) s') (fun e s' => R (.error e) s') s) :
    wpAny (model prog w) A.in1 (Builtin.«list.__eq__» ⟨[.ref l, .ref b], []⟩) (GQ.FinOf prog w A R) (fun e s' => R (.error e) s') s := by
  have step : wpAny (model prog w) A.in1 (Builtin.«list.__eq__.loop» ⟨[.ref l, .ref b, rawInt (0 : Int), rawInt 2], []⟩) (GQ.FinOf prog w A R) (fun e s' => R (.error e) s') s := by
    obtain ⟨⟨items, n, hl, e0, e1, z1⟩, items2, n2, hb, f0, f1, z2⟩ := h0
    obtain ⟨hp, g, d, tk, os⟩ := s
    wp_walk using wpAny_loadPart' hl, wpAny_loadPart' hb
    rw [e0, f0]
    refine wpAny_bind (wpAny_mono he (fun k s2 h2 => ?_) fun _ _ x => x)
    obtain ⟨⟨x', y', p2⟩, q2⟩ := h2
    cases k with
    | true =>
      have nx := eq_list1_loop (A := A) (w := w) (prog := prog) (R := R) l b x' y' p2 q2
      obtain ⟨hp2, g2, d2, tk2, os2⟩ := s2
      wp_walk
      exact ⟨plainId_quiet plain_eq_loop _, codeAny_builtin entry_eq_loop (by
        rw [Around.under_plainId plain_eq_loop _]
        exact nx)⟩
    | false =>
      obtain ⟨⟨items, n, hl, e0, e1, z1⟩, items2, n2, hb, f0, f1, z2⟩ := p2
      obtain ⟨hp2, g2, d2, tk2, os2⟩ := s2
      wp_walk using wpAny_loadPart' hl, wpAny_loadPart' hb
      rw [e0, f0]
      wp_walk
      exact q2
  obtain ⟨⟨items, n, hl, e0, e1, z1⟩, items2, n2, hb, f0, f1, z2⟩ := h0
  obtain ⟨hp, g, d, tk, os⟩ := s
  have f3 := AutoSeq1.sub_list_list
  have hne : ¬ (items.size != items2.size) = true := by simp [z1, z2]
  wp_walk using wpAny_loadPart' hl, wpAny_loadPart' hb
  exact ⟨plainId_quiet plain_eq_loop _, codeAny_builtin entry_eq_loop (by
    rw [Around.under_plainId plain_eq_loop _]
    exact step)⟩
/-- tuples of any length: each two of items compared in turn, to the first that differ; e tells how each comes out -/
theorem tuple_eqB (l b : Addr) (items items2 : Array Value) (n n2 : Nat) (dd dd2 : Option Addr) (sl sl2 : Array (Option Value)) (hsz : items.size = items2.size) (I : Nat → Shared → Prop) (F : Shared → Prop)
    (turn : ∀ i (h1 : i < items.size) (h2 : i < items2.size) s, I i s → wpAny (model prog w) A.in1 (eqBool items[i] items2[i]) (fun r s' => if r = true then I (i + 1) s' else F s') (fun e s' => R (.error e) s') s)
    (fin : ∀ s, I items.size s → R (.ok (.ret (.bool true))) s) (bad : ∀ s, F s → R (.ok (.ret (.bool false))) s) {s : Shared} (hl1 : s.heap.get? l = some { cls := .type "tuple", dict := dd, data := .seq items n, slots := sl }) (hb1 : s.heap.get? b = some { cls := .type "tuple", dict := dd2, data := .seq items2 n2, slots := sl2 }) (h : I 0 s) :
    wpAny (model prog w) A.in1 (Builtin.«tuple.__eq__» ⟨[.ref l, .ref b], []⟩) (GQ.FinOf prog w A R) (fun e s' => R (.error e) s') s := by
  have f2 := AutoSeq1.sub_tuple_tuple
  have hZ : (items.toList.zip items2.toList).length = items.size := by simp [hsz]
  have h0 := h
  obtain ⟨hp, g, d, tk, os⟩ := s
  wp_walk using wpAny_loadPart' hl1, wpAny_loadPart' hb1, wpAny_forIn_list _ (fun rest b s' => b.1 = none ∧ ∃ i, rest = (items.toList.zip items2.toList).drop i ∧ i ≤ items.size ∧ I i s') _
  case turn =>
    rintro ⟨y, x⟩ rest b s' ⟨hb', i, hz, hi, hI⟩
    have hlt : i < (items.toList.zip items2.toList).length := by
      rcases Nat.lt_or_ge i (items.toList.zip items2.toList).length with h' | h'
      · exact h'
      · rw [List.drop_of_length_le h'] at hz; cases hz
    have h1 : i < items.size := hZ ▸ hlt
    have h2 : i < items2.size := hsz ▸ h1
    rw [List.drop_eq_getElem_cons hlt] at hz
    injection hz with hyx hrest
    have hy : y = items[i] := by have := congrArg Prod.fst hyx; simpa using this
    have hx : x = items2[i] := by have := congrArg Prod.snd hyx; simpa using this
    subst hy hx
    refine wpAny_bind (wpAny_mono (turn i h1 h2 s' hI) (fun r s2 q2 => ?_) fun _ _ x => x)
    cases r with
    | true =>
      wp_walk
      exact ⟨rfl, i + 1, hrest, h1, q2⟩
    | false =>
      wp_walk
      exact bad _ q2
  case fin =>
    rintro ⟨b1, b2⟩ s' ⟨hb', i, hz, hi, hI⟩
    simp only at hb'
    subst hb'
    have hge : items.size ≤ i := by
      rcases Nat.lt_or_ge i (items.toList.zip items2.toList).length with h' | h'
      · rw [List.drop_eq_getElem_cons h'] at hz; cases hz
      · exact hZ ▸ h'
    have hi' : i = items.size := by omega
    have hR : R (.ok (.ret (.bool true))) s' := fin s' (hi' ▸ hI)
    wp_walk
    simpa [Builtin.Tuple.tupleCompareSizes, hsz] using hR
  case h =>
    exact ⟨rfl, 0, rfl, Nat.zero_le _, h0⟩
end
section
variable {prog : Program} {w : World} {A : Around} {R : Result → Shared → Prop}
theorem tuple_eq2 (l b : Addr) (c1 c2 x y : Value) (n n2 : Nat) (dd dd2 : Option Addr) (sl sl2 : Array (Option Value)) {s : Shared} (Tr Fa : Shared → Prop)
    (t0 : wpAny (model prog w) A.in1 (eqBool c1 c2) (fun r s' => r = true ∧ s' = s) (fun e s' => R (.error e) s') s)
    (t1 : wpAny (model prog w) A.in1 (eqBool x y) (fun r s' => if r = true then Tr s' else Fa s') (fun e s' => R (.error e) s') s)
    (fin : ∀ s, Tr s → R (.ok (.ret (.bool true))) s) (bad : ∀ s, Fa s → R (.ok (.ret (.bool false))) s) (hl1 : s.heap.get? l = some { cls := .type "tuple", dict := dd, data := .seq #[c1, x] n, slots := sl }) (hb1 : s.heap.get? b = some { cls := .type "tuple", dict := dd2, data := .seq #[c2, y] n2, slots := sl2 }) :
    wpAny (model prog w) A.in1 (Builtin.«tuple.__eq__» ⟨[.ref l, .ref b], []⟩) (GQ.FinOf prog w A R) (fun e s' => R (.error e) s') s := by
  refine tuple_eqB l b #[c1, x] #[c2, y] n n2 dd dd2 sl sl2 rfl (fun i s' => (i = 0 ∧ s' = s) ∨ (i = 1 ∧ s' = s) ∨ (i = 2 ∧ Tr s')) Fa (fun i h1 h2 s' hI => ?_) (fun s' hI => ?_) bad hl1 hb1 (.inl ⟨rfl, rfl⟩)
  · rcases hI with ⟨rfl, rfl⟩ | ⟨rfl, rfl⟩ | ⟨rfl, _⟩
    · show wpAny _ _ (eqBool c1 c2) _ _ _
      refine wpAny_mono t0 (fun r s2 z => ?_) fun _ _ x => x
      obtain ⟨rfl, rfl⟩ := z
      rw [if_pos rfl]
      exact .inr (.inl ⟨rfl, rfl⟩)
    · show wpAny _ _ (eqBool x y) _ _ _
      refine wpAny_mono t1 (fun r s2 z => ?_) fun _ _ x => x
      cases r with
      | true =>
        rw [if_pos rfl] at z ⊢
        exact .inr (.inr ⟨rfl, z⟩)
      | false =>
        rw [if_neg Bool.false_ne_true] at z ⊢
        exact z
    · exact absurd h1 (by simp)
  · rcases hI with ⟨e, _⟩ | ⟨e, _⟩ | ⟨_, h⟩
    · exact absurd e (by simp)
    · exact absurd e (by simp)
    · exact fin s' h
end
/-! ### the operators -/
section
open SeqRoads2
variable {X : Cx} {n : Nat} {r : R2}
theorem one_of {pins : List (Addr × Obj)} {σ : L2.St} {H : Hp} {s : Shared} {a : Addr} {x : V} (I : L2.Inv X pins σ H s) (h : H a = some (.lst [x])) : ∃ u, RelV x u ∧ One s a u := by
  obtain ⟨z, its, k, rv, e⟩ := I.hok a _ h
  cases rv with
  | cons r1 r2 =>
    cases r2
    exact ⟨_, r1, One.of e⟩
theorem one_eq {s : Shared} {a : Addr} {u v : Value} (h1 : One s a u) (h2 : One s a v) : u = v := by
  obtain ⟨i1, n1, g1, e1, _, _⟩ := h1
  obtain ⟨i2, n2, g2, e2, _, _⟩ := h2
  rw [g1] at g2
  cases g2
  rw [e1] at e2
  exact Option.some.inj e2
/-- x in [z] -/
def rIn1 (r : R2) : R2 := fun x y H Q => ∃ p z, y = .ref p ∧ H p = some (.lst [z]) ∧ r z x H (fun t H' => Ext H H' ∧ Q t H')
theorem op_in1 (h : EqO X n r) (hr : Room (n + 1) X.A) : OpR X (compareOp .In) (rIn1 r) := by
  intro pins s σ H x y v u Q I rx ry hq
  obtain ⟨p, z, rfl, hp, q⟩ := hq
  cases ry
  have sb : Sub X (n + 1) X.A := ⟨hr, rfl⟩
  obtain ⟨zu, rz, o1⟩ := one_of I hp
  obtain ⟨items, k, hl, _⟩ := id o1
  show wpAny _ X.A (do return .bool (← contains (.ref p) v)) (EP X pins σ Q) X.xe s
  refine wpAny_bind (wpAny_contains_slot ⟨_, hl, rfl⟩ PySem.F.slot_list_contains (wpAny_mono (GQ.call_here (A := X.A) (E := X.xe) (Q := fun t s' => ∃ b H', t = .bool b ∧ L2.Inv X pins σ H' s' ∧ Q (.bl b) H') PySem.F.slot_list_contains ⟨_, hl, rfl⟩ PySem.F.entry_list_contains (PySem.F.args_list_contains_2 _ _) ?_) (fun t s' hv => ?_) fun _ _ e => e))
  · refine contains1 p v zu o1 ?_
    refine wpAny_mono (h X.A.in1 pins s σ H z x zu v _ sb.in1 I rz rx q) (fun b s' hb => ?_) fun _ _ x => x
    obtain ⟨H', I', ex, q'⟩ := hb
    obtain ⟨zu', rz', o2⟩ := one_of I' (ex _ _ hp)
    exact ⟨⟨zu', o2⟩, b, H', rfl, I', q'⟩
  · obtain ⟨b, H', rfl, I', q'⟩ := hv
    exact wpAny_truthy_bool (wpAny_pure ⟨.bl b, H', I', rfl, q'⟩)
/-- [x] == [y] -/
def rEqL1 (r : R2) : R2 := fun u v H Q => ∃ a b x y, u = .ref a ∧ v = .ref b ∧ H a = some (.lst [x]) ∧ H b = some (.lst [y]) ∧ r x y H (fun t H' => Ext H H' ∧ Q t H')
theorem rc_list1 (h : EqO X n r) : RcO X (n + 1) (rEqL1 r) := by
  intro A pins s σ H x y u v Q sb I rx ry hq
  obtain ⟨a, b, x1, y1, rfl, rfl, ha, hb, q⟩ := hq
  cases rx
  cases ry
  obtain ⟨xu, rxu, o1⟩ := one_of I ha
  obtain ⟨yu, ryu, o2⟩ := one_of I hb
  obtain ⟨items, k, hl, _⟩ := id o1
  obtain ⟨items2, k2, hl2, _⟩ := id o2
  refine wpAny_richCompare_same_room (op := .Eq) ⟨_, hl, rfl⟩ ⟨_, hl2, rfl⟩ PySem.F.slot_list_eq (GQ.call_here PySem.F.slot_list_eq ⟨_, hl, rfl⟩ PySem.F.entry_list_eq (PySem.F.args_list_eq_2 _ _) ?_) sb.room.units0
  refine eq_list1 (R := wants (fun v s' => v ≠ .notImplemented ∧ ∃ b H', v = .bool b ∧ L2.Inv X pins σ H' s' ∧ Q (.bl b) H') X.xe) a b xu yu ⟨o1, o2⟩ ?_
  refine wpAny_mono (h A.in1 pins s σ H x1 y1 xu yu _ sb.in1 I rxu ryu q) (fun k s' hk => ?_) fun _ _ x => x
  obtain ⟨H', I', ex, q'⟩ := hk
  obtain ⟨xu', _, p1⟩ := one_of I' (ex _ _ ha)
  obtain ⟨yu', _, p2⟩ := one_of I' (ex _ _ hb)
  exact ⟨⟨xu', yu', p1, p2⟩, (fun z => nomatch z), k, H', rfl, I', q'⟩
/-- (c, x) == (d, y), c and d ints that are the same -/
def rEqT2 (K : PySem.W.Frag) (r : R2) : R2 := fun u v H Q => ∃ a b c x y, u = .ref a ∧ v = .ref b ∧ SqT K H a [.int c, x] ∧ SqT K H b [.int c, y] ∧ r x y H Q
theorem rc_tup2 (h : EqO X n r) : RcO X (n + 1) (rEqT2 X.K r) := by
  intro A pins s σ H x y u v Q sb I rx ry hq
  obtain ⟨a, b, c, x1, y1, rfl, rfl, ha, hb, q⟩ := hq
  cases rx
  cases ry
  obtain ⟨its, rv, pl, _⟩ := I.tuple ha
  obtain ⟨its2, rv2, pl2, _⟩ := I.tuple hb
  obtain ⟨⟨cls, dd, data, sl⟩, ho, hc, k, hd⟩ := id pl
  obtain ⟨⟨cls2, dd2, data2, sl2⟩, ho2, hc2, k2, hd2⟩ := id pl2
  simp only at hc hd hc2 hd2
  subst hc hd hc2 hd2
  cases rv with
  | cons r1 rv =>
  cases rv with
  | cons r2 rv =>
  cases rv
  cases rv2 with
  | cons q1 rv2 =>
  cases rv2 with
  | cons q2 rv2 =>
  cases rv2
  obtain ⟨t1, rfl⟩ := r1
  obtain ⟨t2, rfl⟩ := q1
  rename_i xu yu
  refine wpAny_richCompare_same_room (op := .Eq) ⟨_, ho, rfl⟩ ⟨_, ho2, rfl⟩ PySem.F.slot_tuple_eq (GQ.call_here PySem.F.slot_tuple_eq ⟨_, ho, rfl⟩ PySem.F.entry_tuple_eq (PySem.F.args_tuple_eq_2 _ _) ?_) sb.room.units0
  refine tuple_eq2 (R := wants (fun v s' => v ≠ .notImplemented ∧ ∃ b H', v = .bool b ∧ L2.Inv X pins σ H' s' ∧ Q (.bl b) H') X.xe) a b (.int c t1) (.int c t2) xu yu k k2 dd dd2 sl sl2
    (fun s' => ∃ H', L2.Inv X pins σ H' s' ∧ Q (.bl true) H') (fun s' => ∃ H', L2.Inv X pins σ H' s' ∧ Q (.bl false) H') ?_ ?_ ?_ ?_ ho ho2
  · exact (SeqAt.EqAt.int_int c t1 c t2) X.prog X.w _ _ ⟨beq_self_eq_true c, rfl⟩
  · refine wpAny_mono (h A.in1 pins s σ H x1 y1 xu yu _ sb.in1 I r2 q2 q) (fun k s2 hk => ?_) fun _ _ x => x
    obtain ⟨H', I', q'⟩ := hk
    cases k with
    | true => exact ⟨H', I', q'⟩
    | false => exact ⟨H', I', q'⟩
  · rintro s' ⟨H', I', q'⟩
    exact ⟨(fun z => nomatch z), true, H', rfl, I', q'⟩
  · rintro s' ⟨H', I', q'⟩
    exact ⟨(fun z => nomatch z), false, H', rfl, I', q'⟩
end

/-! ### str(x), repr(x), f"{x}" of an instance -/
section
variable {X : Cx} {CX : CXT} {n : Nat} {f C : Addr} {fd : FuncData} {ps : List Str} {sp : Sp} {E : XK}
def rTextO (C : Addr) (sp : Sp) (E : XK) : List V → Hp → VK → Prop := fun xs H Q => ∃ a dx fs, xs = [.ref a] ∧ H a = some (.ins C dx fs) ∧ sp xs H (fun v H' => ∃ z, v = .str z ∧ Q (.str z) H') E
theorem text_back {pins : List (Addr × Obj)} {σ : L2.St} {Q : VK} {r : Value} {s' : Shared} (z : EP X pins σ (fun v H' => ∃ z, v = .str z ∧ Q (.str z) H') r s') : PySem.W.StrBack (EP X pins σ Q) r s' := by
  obtain ⟨y, H', I', ry, z, rfl, q'⟩ := z
  obtain ⟨t, rfl⟩ := (show ∃ t, r = Value.str z t from ry)
  exact ⟨.str z, H', I', ⟨t, rfl⟩, q'⟩
theorem call_strO (F : FnOk X.prog X.w X.K X.mg X.base CX n f fd ps sp) (hs : PySem.W.findIn X.K (.ref C) "__str__" = some (some (.ref f))) (hf : PySem.W.isFn X.K (.ref f) = true) (hb : Binds X.K fd ps []) (hx : Passes CX X E) (hr : Room (n + 2) X.A) :
    CallR X (.type "str") (rTextO C sp E) := by
  intro pins s σ H xs us Q I r h
  obtain ⟨a, dx, fs, rfl, ha, q⟩ := h
  have r2 : Vals [V.ref a] [Value.ref a] := .cons rfl .nil
  rw [Vals.ref1 r]
  obtain ⟨mA, J, _⟩ := ins_get I.hok ha
  obtain ⟨od, J, _⟩ := J.look
  have sb : Sub X (n + 2) X.A := ⟨hr, rfl⟩
  exact PySem.W.kso_call sb.in1.in1.room.units0 I.kIn J hs hf (wpAny_mono (call_sub F hb hx sb.in1.in1 I r2 q) (fun r s' z => text_back z) fun _ _ x => x)
theorem call_reprO (F : FnOk X.prog X.w X.K X.mg X.base CX n f fd ps sp) (hs : PySem.W.findIn X.K (.ref C) "__repr__" = some (some (.ref f))) (hf : PySem.W.isFn X.K (.ref f) = true) (hb : Binds X.K fd ps []) (hx : Passes CX X E) (hr : Room (n + 1) X.A) :
    CallR X (.builtin "repr") (rTextO C sp E) := by
  intro pins s σ H xs us Q I r h
  obtain ⟨a, dx, fs, rfl, ha, q⟩ := h
  have r2 : Vals [V.ref a] [Value.ref a] := .cons rfl .nil
  rw [Vals.ref1 r]
  obtain ⟨mA, J, _⟩ := ins_get I.hok ha
  obtain ⟨od, J, _⟩ := J.look
  obtain ⟨m, hF⟩ := I.fr
  have sb : Sub X (n + 1) X.A := ⟨hr, rfl⟩
  exact PySem.W.repr_K sb.in1.room.units0 hF I.ok.mod.kin J hs hf (wpAny_mono (call_sub F hb hx sb.in1 I r2 q) (fun r s' z => text_back z) fun _ _ x => x)
def tFmtO (C : Addr) (sp : Sp) (E : XK) (te : TE) : TE := fun σ H Q => te σ H fun x H1 => rTextO C sp E [x] H1 Q
theorem pe_fmtO {e : Expr} {te : TE} {pos : Pos} (F : FnOk X.prog X.w X.K X.mg X.base CX n f fd ps sp) (hs : PySem.W.findIn X.K (.ref C) "__str__" = some (some (.ref f))) (hf : PySem.W.isFn X.K (.ref f) = true) (hb : Binds X.K fd ps []) (hx : Passes CX X E)
    (hfm : PySem.W.findIn X.K (.ref C) "__format__" = some (some (.builtin "object.__format__"))) (hm : PySem.W.mroIn X.K C (.type "object") = some true) (hr : Room (n + 1) X.A) (he : PE X e te) : PE X (.FormattedValue e (-1) none pos) (tFmtO C sp E te) := by
  refine ⟨fun pins s σ H Q I h => ?_⟩
  refine wpAny_FormattedValue_plain (thn (he.run pins s σ H _ I h) fun v s1 hv => ?_)
  obtain ⟨x, H1, I1, r1, a, dx, fs, e1, ha, q⟩ := hv
  cases e1
  cases r1
  have r2 : Vals [V.ref a] [Value.ref a] := .cons rfl .nil
  have I2 := I1.tok (s1.toks + 1)
  obtain ⟨mA, J, _⟩ := ins_get I1.hok ha
  obtain ⟨od, J, _⟩ := J.look
  have sb : Sub X (n + 1) X.A := ⟨hr, rfl⟩
  exact PySem.W.kfo_fieldS sb.in1.room.units0 I1.kIn J hfm hm hs hf (wpAny_mono (call_sub F hb hx sb.in1 I2 r2 q) (fun r s' z => text_back z) fun _ _ x => x)
end
end UO
namespace UO
open PySem L2
/-! ### what the top leaves of a class whose instances are compared -/
def sixT : List String := ["NoneType", "bool", "int", "str", "list", "tuple"]
structure InsX (K : PySem.W.Frag) (C : Addr) : Prop where
  cla : PySem.W.findIn K (.ref C) "__class__" = some (some (.builtin "object.__class__"))
  spe : PySem.W.specialIn K (.builtin "object.__class__") "__get__" = some (some (.builtin "getset_descriptor.__get__"))
  tak : PySem.W.takesIn K (.builtin "object.__class__") = some true
  mro : PySem.W.mroIn K C (.type "object") = some true
  ne : PySem.W.findIn K (.ref C) "__ne__" = some (some (.builtin "object.__ne__"))
  fmt : PySem.W.findIn K (.ref C) "__format__" = some (some (.builtin "object.__format__"))
  kit : ∀ T ∈ sixT, PySem.W.kitOne K (.type T) (.ref C) = some false
  sub : ∀ T ∈ sixT, PySem.W.mroIn K C (.type T) = some false
  fst : ∀ T ∈ sixT, PySem.W.subIn K (.type T) (.ref C) = some false
def insB (x : Str) (K : PySem.W.Frag) : Bool :=
  decide (PySem.W.findIn K (.ref (He.ga K x)) "__class__" = some (some (.builtin "object.__class__"))) && (decide (PySem.W.specialIn K (.builtin "object.__class__") "__get__" = some (some (.builtin "getset_descriptor.__get__"))) &&
  (decide (PySem.W.takesIn K (.builtin "object.__class__") = some true) && (decide (PySem.W.mroIn K (He.ga K x) (.type "object") = some true) && (decide (PySem.W.findIn K (.ref (He.ga K x)) "__ne__" = some (some (.builtin "object.__ne__"))) &&
  (decide (PySem.W.findIn K (.ref (He.ga K x)) "__format__" = some (some (.builtin "object.__format__"))) && (sixT.all (fun T => decide (PySem.W.kitOne K (.type T) (.ref (He.ga K x)) = some false)) &&
  (sixT.all (fun T => decide (PySem.W.mroIn K (He.ga K x) (.type T) = some false)) && sixT.all (fun T => decide (PySem.W.subIn K (.type T) (.ref (He.ga K x)) = some false)))))))))
theorem insB_ok {x : Str} {K : PySem.W.Frag} (h : insB x K = true) : InsX K (He.ga K x) := by
  obtain ⟨h1, h⟩ := He.ba h
  obtain ⟨h2, h⟩ := He.ba h
  obtain ⟨h3, h⟩ := He.ba h
  obtain ⟨h4, h⟩ := He.ba h
  obtain ⟨h5, h⟩ := He.ba h
  obtain ⟨h6, h⟩ := He.ba h
  obtain ⟨h7, h⟩ := He.ba h
  obtain ⟨h8, h9⟩ := He.ba h
  exact ⟨of_decide_eq_true h1, of_decide_eq_true h2, of_decide_eq_true h3, of_decide_eq_true h4, of_decide_eq_true h5, of_decide_eq_true h6, fun T hT => of_decide_eq_true (List.all_eq_true.mp h7 T hT),
    fun T hT => of_decide_eq_true (List.all_eq_true.mp h8 T hT), fun T hT => of_decide_eq_true (List.all_eq_true.mp h9 T hT)⟩
theorem InsX.ty {K : PySem.W.Frag} {C : Addr} (ix : InsX K C) (cl : Cls K C) {H : Hp} {a dx : Addr} {fs : List (Str × V)} (h : H a = some (.ins C dx fs)) : TyX K H (.ref a) (.ref C) := .base (.ins h cl ix.cla ix.spe ix.tak ix.mro)
theorem kit_self (K : PySem.W.Frag) (C : Addr) : PySem.W.kitOne K (.ref C) (.ref C) = some true := by
  unfold PySem.W.kitOne
  rw [if_pos (beq_self_eq_true _)]
theorem first_self (K : PySem.W.Frag) (C : Addr) : PySem.W.notFirst K C (.ref C) = true := by
  unfold PySem.W.notFirst
  rw [beq_self_eq_true, Bool.true_or]
theorem InsX.first {K : PySem.W.Frag} {C : Addr} (ix : InsX K C) {T : String} (hT : T ∈ sixT) : PySem.W.notFirst K C (.type T) = true := by
  unfold PySem.W.notFirst
  rw [ix.fst T hT, beq_self_eq_true, Bool.or_true]
theorem plain_ty {K : PySem.W.Frag} {H : Hp} {x : V} {T : String} (h : plainTy H K x T) : TyX K H x (.type T) ∧ T ∈ sixT := by
  cases x with
  | non => cases (show T = "NoneType" from h); exact ⟨.base .non, by decide⟩
  | bl b => cases (show T = "bool" from h); exact ⟨.base (.bl b), by decide⟩
  | int i => cases (show T = "int" from h); exact ⟨.base (.int i), by decide⟩
  | str z => cases (show T = "str" from h); exact ⟨.base (.str z), by decide⟩
  | ref p =>
    rcases h with ⟨rfl, xs, (h | ⟨o, h⟩) | ⟨o, its, n, h1, h2, _⟩⟩ | ⟨rfl, xs, (h | ⟨o, h⟩) | ⟨o, its, n, h1, h2, _⟩⟩
    · exact ⟨.base (.lst h), by decide⟩
    · exact ⟨.base (.frz h), by decide⟩
    · exact ⟨.kList h1 h2, by decide⟩
    · exact ⟨.base (.tup h), by decide⟩
    · exact ⟨.fTuple h, by decide⟩
    · exact ⟨.kTuple h1 h2, by decide⟩
  | _ => exact False.elim h
/-! ### a Hook with one more Bool -/
abbrev AlB : Type := He.AlD × Bool
def obsB (n : Nat) (fa : List He.Fa) (fn : List He.DefD) (ex : PySem.W.Frag → Bool) (g : Addr → Option Obj) : AlB := (He.obsDG n fa fn g, ex (He.frG g (He.asD g n)))
def hookB (n : Nat) (fa : List He.Fa) (fn : List He.DefD) (ex : PySem.W.Frag → Bool) : PySem.W.Hook where
  α := AlB
  obs := fun s => obsB n fa fn ex s.heap.get?
  val := fun _ => (He.valD fn, true)
  says := fun _ h => ∃ K : PySem.W.Frag, K.In h ∧ He.SaysD fa fn K ∧ ex K = true
  of := fun _ _ e => ⟨_, He.frG_in, congrArg (fun z : AlB => z.1) e, congrArg (fun z : AlB => z.2) e⟩
  keeps := fun _ _ _ ⟨K, hK, c⟩ k => ⟨K, PySem.W.Frag.In.keeps hK k, c⟩
theorem obsB_eq {n : Nat} {fa : List He.Fa} {fn : List He.DefD} {ex : PySem.W.Frag → Bool} {g : Addr → Option Obj} {s : Shared} (h : ∀ a, g a = s.heap.get? a) : obsB n fa fn ex g = (hookB n fa fn ex).obs s := by
  have e : g = s.heap.get? := funext h
  rw [e] <;> rfl
end UO
namespace UO
open PySem L2
/-! ### keyword defaults that are empty tuples -/
def kwAdr (K : PySem.W.Frag) (f : Str × Option Str) (x : Str) : Addr := match K.lookup (He.fAd K f) with
  | some ⟨_, _, .func fd, _⟩ => (match fd.kwdefaults with
    | .ref D => (match PySem.W.nsIn K D x with
      | some (some (.ref a)) => a
      | _ => 0)
    | _ => 0)
  | _ => 0
def tup0B (K : PySem.W.Frag) (a : Addr) : Bool := match K.lookup a with
  | some ⟨.type c, _, .seq its _, _⟩ => decide (c = "tuple") && decide (its.size = 0)
  | _ => false
theorem tup0B_ok {K : PySem.W.Frag} {a : Addr} (h : tup0B K a = true) (H : Hp) : SqT K H a [] := by
  unfold tup0B at h
  cases q : K.lookup a with
  | none =>
    rw [q] at h
    cases h
  | some o =>
    obtain ⟨oc, od, dt, osl⟩ := o
    rw [q] at h
    cases oc with
    | type c =>
      cases dt with
      | seq its n =>
        obtain ⟨h1, h2⟩ := He.ba (show (decide (c = "tuple") && decide (its.size = 0)) = true from h)
        have e : its.size = 0 := of_decide_eq_true h2
        refine .inr ⟨_, its, n, q, congrArg Value.type (of_decide_eq_true h1), rfl, by rw [e]; exact Nat.zero_le _, ?_⟩
        rw [Array.eq_empty_of_size_eq_zero e]
        exact .nil
      | _ => cases h
    | _ => cases dt <;> cases h
end UO

namespace UO
open PySem L2
/-! ### two classes, two rules -/
structure PairX (K : PySem.W.Frag) (C D : Addr) : Prop where
  kit : PySem.W.kitOne K (.ref C) (.ref D) = some false
  fst : PySem.W.notFirst K C (.ref D) = true
def pairB (x y : Str) (K : PySem.W.Frag) : Bool := decide (PySem.W.kitOne K (.ref (He.ga K x)) (.ref (He.ga K y)) = some false) && PySem.W.notFirst K (He.ga K x) (.ref (He.ga K y))
theorem pairB_ok {x y : Str} {K : PySem.W.Frag} (h : pairB x y K = true) : PairX K (He.ga K x) (He.ga K y) := by
  obtain ⟨h1, h2⟩ := He.ba h
  exact ⟨of_decide_eq_true h1, h2⟩
def rOr (r1 r2 : R2) : R2 := fun x y H Q => r1 x y H Q ∨ r2 x y H Q
theorem op_or {X : Cx} {f : Value → Value → Sem Value} {r1 r2 : R2} (h1 : OpR X f r1) (h2 : OpR X f r2) : OpR X f (rOr r1 r2) := by
  intro pins s σ H x y v u Q I rx ry h
  rcases h with h | h
  · exact h1 pins s σ H x y v u Q I rx ry h
  · exact h2 pins s σ H x y v u Q I rx ry h
end UO
namespace K04
open PySem L2 UW
def topS (i : Nat) : Stmt := PySem.Challenge.pw_unitwants_k04_units_made_and_equal.main.body.getD i (.Pass ⟨0, 0, 0, 0⟩)
abbrev s_Unit_init : Stmt := inClass (topS 1) 0
abbrev N_Unit_init : List Str := ["self", "name", "kind", "needs", "wants", "bars", "after", "opens", "rule"]
theorem sc_Unit_init : FnScope N_Unit_init ["self", "name", "kind", "needs", "wants", "bars", "after", "opens", "rule"] (defScope s_Unit_init) := ⟨rfl, rfl, rfl, by decide +kernel, rfl, by decide +kernel, by decide +kernel⟩
abbrev s_Unit_eq : Stmt := inClass (topS 1) 1
abbrev N_Unit_eq : List Str := ["self", "other"]
theorem sc_Unit_eq : FnScope N_Unit_eq ["self", "other"] (defScope s_Unit_eq) := ⟨rfl, rfl, rfl, by decide +kernel, rfl, by decide +kernel, by decide +kernel⟩
abbrev s_Unit_repr : Stmt := inClass (topS 1) 2
abbrev N_Unit_repr : List Str := ["self"]
theorem sc_Unit_repr : FnScope N_Unit_repr ["self"] (defScope s_Unit_repr) := ⟨rfl, rfl, rfl, by decide +kernel, rfl, by decide +kernel, by decide +kernel⟩
abbrev s_Rule_init : Stmt := inClass (topS 3) 0
abbrev N_Rule_init : List Str := ["self", "first", "times", "top", "burst", "span"]
theorem sc_Rule_init : FnScope N_Rule_init ["self", "first", "times", "top", "burst", "span"] (defScope s_Rule_init) := ⟨rfl, rfl, rfl, by decide +kernel, rfl, by decide +kernel, by decide +kernel⟩
abbrev s_Rule_eq : Stmt := inClass (topS 3) 1
abbrev N_Rule_eq : List Str := ["self", "other"]
theorem sc_Rule_eq : FnScope N_Rule_eq ["self", "other"] (defScope s_Rule_eq) := ⟨rfl, rfl, rfl, by decide +kernel, rfl, by decide +kernel, by decide +kernel⟩
abbrev s_Rule_str : Stmt := inClass (topS 3) 2
abbrev N_Rule_str : List Str := ["self"]
theorem sc_Rule_str : FnScope N_Rule_str ["self"] (defScope s_Rule_str) := ⟨rfl, rfl, rfl, by decide +kernel, rfl, by decide +kernel, by decide +kernel⟩
abbrev s_Rule_repr : Stmt := inClass (topS 3) 3
abbrev N_Rule_repr : List Str := ["self"]
theorem sc_Rule_repr : FnScope N_Rule_repr ["self"] (defScope s_Rule_repr) := ⟨rfl, rfl, rfl, by decide +kernel, rfl, by decide +kernel, by decide +kernel⟩
abbrev s_law_bag : Stmt := topS 5
abbrev N_law_bag : List Str := ["_law_script", "_law_at", "_law_cell", "_law_far"]
theorem sc_law_bag : FnScope N_law_bag ["_law_script", "_law_at"] (defScope s_law_bag) := ⟨rfl, rfl, rfl, by decide +kernel, rfl, by decide +kernel, by decide +kernel⟩
abbrev s_law_take : Stmt := topS 6
abbrev N_law_take : List Str := ["_law_bag_here", "_law_size", "_law_digit", "_law_primes", "_law_stage", "_law_basis", "_law_found"]
theorem sc_law_take : FnScope N_law_take ["_law_bag_here", "_law_size"] (defScope s_law_take) := ⟨rfl, rfl, rfl, by decide +kernel, rfl, by decide +kernel, by decide +kernel⟩
abbrev s_law_name : Stmt := topS 7
abbrev N_law_name : List Str := ["_law_bag_here", "_law_letters", "_law_size", "_law_spot"]
theorem sc_law_name : FnScope N_law_name ["_law_bag_here"] (defScope s_law_name) := ⟨rfl, rfl, rfl, by decide +kernel, rfl, by decide +kernel, by decide +kernel⟩
abbrev s_law_names : Stmt := topS 8
abbrev N_law_names : List Str := ["_law_bag_here", "_law_size", "_law_found", "_law_spot", "_law_word", "_law_one"]
theorem sc_law_names : FnScope N_law_names ["_law_bag_here", "_law_size"] (defScope s_law_names) := ⟨rfl, rfl, rfl, by decide +kernel, rfl, by decide +kernel, by decide +kernel⟩
abbrev s_law_rule_parts : Stmt := topS 9
abbrev N_law_rule_parts : List Str := ["_law_bag_here", "_law_some_here"]
theorem sc_law_rule_parts : FnScope N_law_rule_parts ["_law_bag_here"] (defScope s_law_rule_parts) := ⟨rfl, rfl, rfl, by decide +kernel, rfl, by decide +kernel, by decide +kernel⟩
abbrev s_law_rule : Stmt := topS 10
abbrev N_law_rule : List Str := ["_law_five"]
theorem sc_law_rule : FnScope N_law_rule ["_law_five"] (defScope s_law_rule) := ⟨rfl, rfl, rfl, by decide +kernel, rfl, by decide +kernel, by decide +kernel⟩
abbrev s_law_some : Stmt := topS 11
abbrev N_law_some : List Str := ["_law_bag_here", "_law_pool", "_law_most", "_law_left", "_law_found", "_law_turn"]
theorem sc_law_some : FnScope N_law_some ["_law_bag_here", "_law_pool", "_law_most"] (defScope s_law_some) := ⟨rfl, rfl, rfl, by decide +kernel, rfl, by decide +kernel, by decide +kernel⟩
abbrev s_law_facts : Stmt := topS 12
abbrev N_law_facts : List Str := ["_law_bag_here", "_law_most", "_law_named", "_law_strange", "_law_loose", "_law_found", "_law_word", "_law_pool", "_law_wide", "_law_musts", "_law_likes", "_law_foes", "_law_elders", "_law_sort", "_law_goal", "_law_five", "_law_one"]
theorem sc_law_facts : FnScope N_law_facts ["_law_bag_here", "_law_most"] (defScope s_law_facts) := ⟨rfl, rfl, rfl, by decide +kernel, rfl, by decide +kernel, by decide +kernel⟩
abbrev s_law_unit : Stmt := topS 13
abbrev N_law_unit : List Str := ["_law_word", "_law_facts_here", "_law_sort", "_law_musts", "_law_likes", "_law_foes", "_law_elders", "_law_goal", "_law_five", "_law_way_on"]
theorem sc_law_unit : FnScope N_law_unit ["_law_word", "_law_facts_here"] (defScope s_law_unit) := ⟨rfl, rfl, rfl, by decide +kernel, rfl, by decide +kernel, by decide +kernel⟩
abbrev s_law_fields_right : Stmt := topS 14
abbrev N_law_fields_right : List Str := ["_law_one", "_law_word", "_law_parts", "_law_sort", "_law_musts", "_law_likes", "_law_foes", "_law_elders", "_law_goal", "_law_five", "_law_some_here"]
theorem sc_law_fields_right : FnScope N_law_fields_right ["_law_one", "_law_word", "_law_parts"] (defScope s_law_fields_right) := ⟨rfl, rfl, rfl, by decide +kernel, rfl, by decide +kernel, by decide +kernel⟩
abbrev s_law_made_anew : Stmt := topS 15
abbrev N_law_made_anew : List Str := ["_law_word", "_law_parts", "_law_sort", "_law_musts", "_law_likes", "_law_foes", "_law_elders", "_law_goal", "_law_five", "_law_made"]
theorem sc_law_made_anew : FnScope N_law_made_anew ["_law_word", "_law_parts"] (defScope s_law_made_anew) := ⟨rfl, rfl, rfl, by decide +kernel, rfl, by decide +kernel, by decide +kernel⟩
abbrev s_law_bent : Stmt := topS 16
abbrev N_law_bent : List Str := ["_law_bag_here", "_law_word", "_law_parts", "_law_found", "_law_at", "_law_used", "_law_fresh", "_law_one"]
theorem sc_law_bent : FnScope N_law_bent ["_law_bag_here", "_law_word", "_law_parts"] (defScope s_law_bent) := ⟨rfl, rfl, rfl, by decide +kernel, rfl, by decide +kernel, by decide +kernel⟩
abbrev s_law : Stmt := topS 17
abbrev N_law : List Str := ["_law_script", "_law_k", "_law_bag_here", "_law_facts_here", "_law_word", "_law_one", "_law_other", "_law_altered", "_law_parts", "_law_bent_here", "_law_told", "_law_odd"]
theorem sc_law : FnScope N_law ["_law_script"] (defScope s_law) := ⟨rfl, rfl, rfl, by decide +kernel, rfl, by decide +kernel, by decide +kernel⟩
structure Txt (K : PySem.W.Frag) (mg : Str → Option Value) where
  d_Unit_init : FuncData
  F_Unit_init : FunD K "__init__" "Unit.__init__" (defArgs s_Unit_init) (defBody s_Unit_init) (defScope s_Unit_init) [] [("kind", V.str "work"), ("needs", V.ref (UO.kwAdr K ("Unit", some "__init__") "needs")), ("wants", V.ref (UO.kwAdr K ("Unit", some "__init__") "wants")), ("bars", V.ref (UO.kwAdr K ("Unit", some "__init__") "bars")), ("after", V.ref (UO.kwAdr K ("Unit", some "__init__") "after")), ("opens", V.non), ("rule", V.non)] (He.fAd K ("Unit", some "__init__")) d_Unit_init
  d_Unit_eq : FuncData
  F_Unit_eq : FunD K "__eq__" "Unit.__eq__" (defArgs s_Unit_eq) (defBody s_Unit_eq) (defScope s_Unit_eq) [] [] (He.fAd K ("Unit", some "__eq__")) d_Unit_eq
  b_Unit_eq : Binds K d_Unit_eq ["self", "other"] []
  me_Unit_eq : Meth K (He.ga K "Unit") "__eq__" (He.fAd K ("Unit", some "__eq__"))
  d_Unit_repr : FuncData
  F_Unit_repr : FunD K "__repr__" "Unit.__repr__" (defArgs s_Unit_repr) (defBody s_Unit_repr) (defScope s_Unit_repr) [] [] (He.fAd K ("Unit", some "__repr__")) d_Unit_repr
  b_Unit_repr : Binds K d_Unit_repr ["self"] []
  me_Unit_repr : Meth K (He.ga K "Unit") "__repr__" (He.fAd K ("Unit", some "__repr__"))
  d_Rule_init : FuncData
  F_Rule_init : FunD K "__init__" "Rule.__init__" (defArgs s_Rule_init) (defBody s_Rule_init) (defScope s_Rule_init) [] [("first", V.int 1), ("times", V.int 2), ("top", V.int 64), ("burst", V.int 5), ("span", V.int 100)] (He.fAd K ("Rule", some "__init__")) d_Rule_init
  d_Rule_eq : FuncData
  F_Rule_eq : FunD K "__eq__" "Rule.__eq__" (defArgs s_Rule_eq) (defBody s_Rule_eq) (defScope s_Rule_eq) [] [] (He.fAd K ("Rule", some "__eq__")) d_Rule_eq
  b_Rule_eq : Binds K d_Rule_eq ["self", "other"] []
  me_Rule_eq : Meth K (He.ga K "Rule") "__eq__" (He.fAd K ("Rule", some "__eq__"))
  d_Rule_str : FuncData
  F_Rule_str : FunD K "__str__" "Rule.__str__" (defArgs s_Rule_str) (defBody s_Rule_str) (defScope s_Rule_str) [] [] (He.fAd K ("Rule", some "__str__")) d_Rule_str
  b_Rule_str : Binds K d_Rule_str ["self"] []
  me_Rule_str : Meth K (He.ga K "Rule") "__str__" (He.fAd K ("Rule", some "__str__"))
  d_Rule_repr : FuncData
  F_Rule_repr : FunD K "__repr__" "Rule.__repr__" (defArgs s_Rule_repr) (defBody s_Rule_repr) (defScope s_Rule_repr) [] [] (He.fAd K ("Rule", some "__repr__")) d_Rule_repr
  b_Rule_repr : Binds K d_Rule_repr ["self"] []
  me_Rule_repr : Meth K (He.ga K "Rule") "__repr__" (He.fAd K ("Rule", some "__repr__"))
  d_law_bag : FuncData
  F_law_bag : FunD K "_law_bag" "_law_bag" (defArgs s_law_bag) (defBody s_law_bag) (defScope s_law_bag) [] [] (He.fAd K ("_law_bag", none)) d_law_bag
  m_law_bag : mg "_law_bag" = some (.ref (He.ga K "_law_bag"))
  b_law_bag : Binds K d_law_bag ["_law_script", "_law_at"] []
  d_law_take : FuncData
  F_law_take : FunD K "_law_take" "_law_take" (defArgs s_law_take) (defBody s_law_take) (defScope s_law_take) [] [] (He.fAd K ("_law_take", none)) d_law_take
  m_law_take : mg "_law_take" = some (.ref (He.ga K "_law_take"))
  b_law_take : Binds K d_law_take ["_law_bag_here", "_law_size"] []
  d_law_name : FuncData
  F_law_name : FunD K "_law_name" "_law_name" (defArgs s_law_name) (defBody s_law_name) (defScope s_law_name) [] [] (He.fAd K ("_law_name", none)) d_law_name
  m_law_name : mg "_law_name" = some (.ref (He.ga K "_law_name"))
  b_law_name : Binds K d_law_name ["_law_bag_here"] []
  d_law_names : FuncData
  F_law_names : FunD K "_law_names" "_law_names" (defArgs s_law_names) (defBody s_law_names) (defScope s_law_names) [] [] (He.fAd K ("_law_names", none)) d_law_names
  m_law_names : mg "_law_names" = some (.ref (He.ga K "_law_names"))
  b_law_names : Binds K d_law_names ["_law_bag_here", "_law_size"] []
  d_law_rule_parts : FuncData
  F_law_rule_parts : FunD K "_law_rule_parts" "_law_rule_parts" (defArgs s_law_rule_parts) (defBody s_law_rule_parts) (defScope s_law_rule_parts) [] [] (He.fAd K ("_law_rule_parts", none)) d_law_rule_parts
  m_law_rule_parts : mg "_law_rule_parts" = some (.ref (He.ga K "_law_rule_parts"))
  b_law_rule_parts : Binds K d_law_rule_parts ["_law_bag_here"] []
  d_law_rule : FuncData
  F_law_rule : FunD K "_law_rule" "_law_rule" (defArgs s_law_rule) (defBody s_law_rule) (defScope s_law_rule) [] [] (He.fAd K ("_law_rule", none)) d_law_rule
  m_law_rule : mg "_law_rule" = some (.ref (He.ga K "_law_rule"))
  b_law_rule : Binds K d_law_rule ["_law_five"] []
  d_law_some : FuncData
  F_law_some : FunD K "_law_some" "_law_some" (defArgs s_law_some) (defBody s_law_some) (defScope s_law_some) [] [] (He.fAd K ("_law_some", none)) d_law_some
  m_law_some : mg "_law_some" = some (.ref (He.ga K "_law_some"))
  b_law_some : Binds K d_law_some ["_law_bag_here", "_law_pool", "_law_most"] []
  d_law_facts : FuncData
  F_law_facts : FunD K "_law_facts" "_law_facts" (defArgs s_law_facts) (defBody s_law_facts) (defScope s_law_facts) [] [] (He.fAd K ("_law_facts", none)) d_law_facts
  m_law_facts : mg "_law_facts" = some (.ref (He.ga K "_law_facts"))
  b_law_facts : Binds K d_law_facts ["_law_bag_here", "_law_most"] []
  d_law_unit : FuncData
  F_law_unit : FunD K "_law_unit" "_law_unit" (defArgs s_law_unit) (defBody s_law_unit) (defScope s_law_unit) [] [] (He.fAd K ("_law_unit", none)) d_law_unit
  m_law_unit : mg "_law_unit" = some (.ref (He.ga K "_law_unit"))
  b_law_unit : Binds K d_law_unit ["_law_word", "_law_facts_here"] []
  d_law_fields_right : FuncData
  F_law_fields_right : FunD K "_law_fields_right" "_law_fields_right" (defArgs s_law_fields_right) (defBody s_law_fields_right) (defScope s_law_fields_right) [] [] (He.fAd K ("_law_fields_right", none)) d_law_fields_right
  m_law_fields_right : mg "_law_fields_right" = some (.ref (He.ga K "_law_fields_right"))
  b_law_fields_right : Binds K d_law_fields_right ["_law_one", "_law_word", "_law_parts"] []
  d_law_made_anew : FuncData
  F_law_made_anew : FunD K "_law_made_anew" "_law_made_anew" (defArgs s_law_made_anew) (defBody s_law_made_anew) (defScope s_law_made_anew) [] [] (He.fAd K ("_law_made_anew", none)) d_law_made_anew
  m_law_made_anew : mg "_law_made_anew" = some (.ref (He.ga K "_law_made_anew"))
  b_law_made_anew : Binds K d_law_made_anew ["_law_word", "_law_parts"] []
  d_law_bent : FuncData
  F_law_bent : FunD K "_law_bent" "_law_bent" (defArgs s_law_bent) (defBody s_law_bent) (defScope s_law_bent) [] [] (He.fAd K ("_law_bent", none)) d_law_bent
  m_law_bent : mg "_law_bent" = some (.ref (He.ga K "_law_bent"))
  b_law_bent : Binds K d_law_bent ["_law_bag_here", "_law_word", "_law_parts"] []
  d_law : FuncData
  F_law : FunD K "law" "law" (defArgs s_law) (defBody s_law) (defScope s_law) [] [] (He.fAd K ("law", none)) d_law
  m_law : mg "law" = some (.ref (He.ga K "law"))
  b_law : Binds K d_law ["_law_script"] []
  m_Unit : mg "Unit" = some (.ref (He.ga K "Unit"))
  cl_Unit : Cls K (He.ga K "Unit")
  mk_Unit : Mk K (He.ga K "Unit") (He.fAd K ("Unit", some "__init__"))
  na_Unit_name : NoAttr K (He.ga K "Unit") "name"
  na_Unit_kind : NoAttr K (He.ga K "Unit") "kind"
  na_Unit_needs : NoAttr K (He.ga K "Unit") "needs"
  na_Unit_wants : NoAttr K (He.ga K "Unit") "wants"
  na_Unit_bars : NoAttr K (He.ga K "Unit") "bars"
  na_Unit_after : NoAttr K (He.ga K "Unit") "after"
  na_Unit_opens : NoAttr K (He.ga K "Unit") "opens"
  na_Unit_rule : NoAttr K (He.ga K "Unit") "rule"
  m_Rule : mg "Rule" = some (.ref (He.ga K "Rule"))
  cl_Rule : Cls K (He.ga K "Rule")
  mk_Rule : Mk K (He.ga K "Rule") (He.fAd K ("Rule", some "__init__"))
  na_Rule_first : NoAttr K (He.ga K "Rule") "first"
  na_Rule_times : NoAttr K (He.ga K "Rule") "times"
  na_Rule_top : NoAttr K (He.ga K "Rule") "top"
  na_Rule_burst : NoAttr K (He.ga K "Rule") "burst"
  na_Rule_span : NoAttr K (He.ga K "Rule") "span"
  e0_Unit_init_needs : ∀ H, SqT K H (UO.kwAdr K ("Unit", some "__init__") "needs") []
  e0_Unit_init_wants : ∀ H, SqT K H (UO.kwAdr K ("Unit", some "__init__") "wants") []
  e0_Unit_init_bars : ∀ H, SqT K H (UO.kwAdr K ("Unit", some "__init__") "bars") []
  e0_Unit_init_after : ∀ H, SqT K H (UO.kwAdr K ("Unit", some "__init__") "after") []
  ix_Rule : UO.InsX K (He.ga K "Rule")
  ix_Unit : UO.InsX K (He.ga K "Unit")
  px_Rule_Unit : UO.PairX K (He.ga K "Rule") (He.ga K "Unit")
  px_Unit_Rule : UO.PairX K (He.ga K "Unit") (He.ga K "Rule")
  n_isinstance : mg "isinstance" = none
  n_abs : mg "abs" = none
  n_len : mg "len" = none
  n_int : mg "int" = none
  n_range : mg "range" = none
  n_tuple : mg "tuple" = none
  n_list : mg "list" = none
  n_all : mg "all" = none
  n_max : mg "max" = none
  n_min : mg "min" = none
  n_repr : mg "repr" = none
  kb_Rule_init_1_first_times_top_burst_span : ∃ gg, KBn K d_Rule_init ["self", "first", "times", "top", "burst", "span"] 1 ["first", "times", "top", "burst", "span"] gg (fun us ws => us ++ (ws.drop 0).take 1 ++ (ws.drop 1).take 1 ++ (ws.drop 2).take 1 ++ (ws.drop 3).take 1 ++ (ws.drop 4).take 1)
  kb_Unit_init_2_kind_needs_wants_bars_after_opens_rule : ∃ gg, KBn K d_Unit_init ["self", "name", "kind", "needs", "wants", "bars", "after", "opens", "rule"] 2 ["kind", "needs", "wants", "bars", "after", "opens", "rule"] gg (fun us ws => us ++ (ws.drop 0).take 1 ++ (ws.drop 1).take 1 ++ (ws.drop 2).take 1 ++ (ws.drop 3).take 1 ++ (ws.drop 4).take 1 ++ (ws.drop 5).take 1 ++ (ws.drop 6).take 1)
  kb_Unit_init_2_after_bars_needs_wants : ∃ gg, KBn K d_Unit_init ["self", "name", "kind", "needs", "wants", "bars", "after", "opens", "rule"] 2 ["after", "bars", "needs", "wants"] gg (fun us ws => us ++ ([V.str "work", V.non, V.non].drop 0).take 1 ++ (ws.drop 2).take 1 ++ (ws.drop 3).take 1 ++ (ws.drop 1).take 1 ++ (ws.drop 0).take 1 ++ ([V.str "work", V.non, V.non].drop 1).take 1 ++ ([V.str "work", V.non, V.non].drop 2).take 1)
  kb_Unit_init_2_rule_opens_after_bars_wants_needs_kind : ∃ gg, KBn K d_Unit_init ["self", "name", "kind", "needs", "wants", "bars", "after", "opens", "rule"] 2 ["rule", "opens", "after", "bars", "wants", "needs", "kind"] gg (fun us ws => us ++ (ws.drop 6).take 1 ++ (ws.drop 5).take 1 ++ (ws.drop 4).take 1 ++ (ws.drop 3).take 1 ++ (ws.drop 2).take 1 ++ (ws.drop 1).take 1 ++ (ws.drop 0).take 1)
  kb_Unit_init_1_wants_needs_name : ∃ gg, KBn K d_Unit_init ["self", "name", "kind", "needs", "wants", "bars", "after", "opens", "rule"] 1 ["wants", "needs", "name"] gg (fun us ws => us ++ (ws.drop 2).take 1 ++ ([V.str "work", V.ref (UO.kwAdr K ("Unit", some "__init__") "bars"), V.ref (UO.kwAdr K ("Unit", some "__init__") "after"), V.non, V.non].drop 0).take 1 ++ (ws.drop 1).take 1 ++ (ws.drop 0).take 1 ++ ([V.str "work", V.ref (UO.kwAdr K ("Unit", some "__init__") "bars"), V.ref (UO.kwAdr K ("Unit", some "__init__") "after"), V.non, V.non].drop 1).take 1 ++ ([V.str "work", V.ref (UO.kwAdr K ("Unit", some "__init__") "bars"), V.ref (UO.kwAdr K ("Unit", some "__init__") "after"), V.non, V.non].drop 2).take 1 ++ ([V.str "work", V.ref (UO.kwAdr K ("Unit", some "__init__") "bars"), V.ref (UO.kwAdr K ("Unit", some "__init__") "after"), V.non, V.non].drop 3).take 1 ++ ([V.str "work", V.ref (UO.kwAdr K ("Unit", some "__init__") "bars"), V.ref (UO.kwAdr K ("Unit", some "__init__") "after"), V.non, V.non].drop 4).take 1)
  kb_Unit_init_2_none : ∃ gg, KBn K d_Unit_init ["self", "name", "kind", "needs", "wants", "bars", "after", "opens", "rule"] 2 [] gg (fun us ws => us ++ ([V.str "work", V.ref (UO.kwAdr K ("Unit", some "__init__") "needs"), V.ref (UO.kwAdr K ("Unit", some "__init__") "wants"), V.ref (UO.kwAdr K ("Unit", some "__init__") "bars"), V.ref (UO.kwAdr K ("Unit", some "__init__") "after"), V.non, V.non].drop 0).take 1 ++ ([V.str "work", V.ref (UO.kwAdr K ("Unit", some "__init__") "needs"), V.ref (UO.kwAdr K ("Unit", some "__init__") "wants"), V.ref (UO.kwAdr K ("Unit", some "__init__") "bars"), V.ref (UO.kwAdr K ("Unit", some "__init__") "after"), V.non, V.non].drop 1).take 1 ++ ([V.str "work", V.ref (UO.kwAdr K ("Unit", some "__init__") "needs"), V.ref (UO.kwAdr K ("Unit", some "__init__") "wants"), V.ref (UO.kwAdr K ("Unit", some "__init__") "bars"), V.ref (UO.kwAdr K ("Unit", some "__init__") "after"), V.non, V.non].drop 2).take 1 ++ ([V.str "work", V.ref (UO.kwAdr K ("Unit", some "__init__") "needs"), V.ref (UO.kwAdr K ("Unit", some "__init__") "wants"), V.ref (UO.kwAdr K ("Unit", some "__init__") "bars"), V.ref (UO.kwAdr K ("Unit", some "__init__") "after"), V.non, V.non].drop 3).take 1 ++ ([V.str "work", V.ref (UO.kwAdr K ("Unit", some "__init__") "needs"), V.ref (UO.kwAdr K ("Unit", some "__init__") "wants"), V.ref (UO.kwAdr K ("Unit", some "__init__") "bars"), V.ref (UO.kwAdr K ("Unit", some "__init__") "after"), V.non, V.non].drop 4).take 1 ++ ([V.str "work", V.ref (UO.kwAdr K ("Unit", some "__init__") "needs"), V.ref (UO.kwAdr K ("Unit", some "__init__") "wants"), V.ref (UO.kwAdr K ("Unit", some "__init__") "bars"), V.ref (UO.kwAdr K ("Unit", some "__init__") "after"), V.non, V.non].drop 5).take 1 ++ ([V.str "work", V.ref (UO.kwAdr K ("Unit", some "__init__") "needs"), V.ref (UO.kwAdr K ("Unit", some "__init__") "wants"), V.ref (UO.kwAdr K ("Unit", some "__init__") "bars"), V.ref (UO.kwAdr K ("Unit", some "__init__") "after"), V.non, V.non].drop 6).take 1)
section
variable {P : Program} {w : World} {K : PySem.W.Frag} {mg : Str → Option Value} {base : Heap}
/-! ### the bag and a draw -/
def sp_law_bag (K : PySem.W.Frag) : Sp := fun vs H Q _ => ∃ (a : Addr) (ns : List Int) (k : Nat), vs = [.ref a, .int k] ∧ SqL K H a (ns.map V.int) ∧ k ≤ 1000 ∧
  ∀ p H', H p = none → Same H H' → Bag 0 H' p → Q (.ref p) H'
theorem ok_law_bag (T : Txt K mg) : FnOk P w K mg base CX0 1 (He.fAd K ("_law_bag", none)) T.d_law_bag ["_law_script", "_law_at"] (sp_law_bag K) := by
  refine T.F_law_bag.ok sc_law_bag (fun vs H Q E h => ?_) (fun cdv A outer s H vs Q E hr h => ?_)
  · obtain ⟨a, ns, k, rfl, _⟩ := h
    rfl
  · obtain ⟨a, ns, k, rfl, hS, hk, q⟩ := h
    refine ⟨_, PSs.nox (pss_cons (ps_set (i := 2) sc_law_bag.nd rfl (Or.inl rfl) (pe_op op_add (pe_op op_add (pe_op op_mul (pe_op op_mul pe_int (pv 1)) (pv 1)) (pe_op op_mul pe_int (pv 1))) pe_int))
      (pss_mid (ps_if (pt_cmpR op_lt (pv 1) (pe_callB (id := "len")  call_len_seq (by rfl) T.n_len (by decide +kernel) (pa_cons (pv 0) pa_nil)) (nomark _))
      (pss_one (ps_set (i := 2) sc_law_bag.nd rfl (Or.inl rfl) (pe_ix ix_list (pv 0) (pv 1) (fun _ _ => rfl))))
      pss_nil)
      (pss_cons (ps_set (i := 3) sc_law_bag.nd rfl (Or.inl rfl) (pe_callB (id := "abs")  call_abs (by rfl) T.n_abs (by decide +kernel) (pa_cons (pv 2) pa_nil)))
      (pss_one (ps_ret (pe_lst (pa_cons (pe_op op_mul (pv 3) (pe_callTy (T := "int")  call_int1 (by rfl) T.n_int (by decide +kernel) (pa_cons (pe_cmpR op_ge (pv 3) (pe_op op_powL pe_int pe_int) (nomark _)) pa_nil))) (pa_cons (pe_op op_add (pe_op op_mod (pv 2) (pe_op op_add (pe_op op_powL pe_int pe_int) pe_int)) (pe_op op_mul pe_int (pv 1))) (pa_cons pe_int pa_nil))))))))), ?_⟩
    have hk2 : (k : Int) ≤ 1000 := by omega
    have hk0 : (0 : Int) ≤ k := Int.natCast_nonneg _
    -- cell = 7919 * at * at + 104729 * at + 11
    refine ⟨_, rfl, _, _, rfl, rfl, .inl ⟨by decide, by decide⟩, _, rfl, _, _, rfl, rfl, .inr ⟨by omega, by omega⟩, _, rfl, _, _, rfl, rfl, .inl ⟨by decide, by decide⟩, _, _, rfl, rfl, _, _, rfl, rfl, ?_⟩
    -- if at < len(script)
    refine ⟨fun σ H' => H' = H ∧ ∃ c : Int, σ = [some (.ref a), some (.int k), some (.int c), none], ?_, ?_⟩
    · refine ⟨_, rfl, _, rfl, a, _, rfl, .inl hS, _, _, rfl, rfl, _, rfl, ?_⟩
      refine ite2 (fun hc => ?_) (fun hc => ?_)
      · have hlt : k < ns.length := by
          have := of_decide_eq_true hc
          rw [List.length_map] at this
          omega
        exact ⟨_, rfl, _, rfl, a, _, _, .int ns[k], rfl, rfl, hS, atI_nat (by rw [List.getElem?_map, List.getElem?_eq_getElem hlt]; rfl), rfl, _, rfl⟩
      · exact ⟨rfl, _, rfl⟩
    · rintro σ H' ⟨rfl, c, rfl⟩
      -- far = abs(cell); return [far * int(far >= 10 ** 18), cell % (10 ** 18 + 9) + 1299709 * at, 0]
      refine ⟨_, rfl, _, rfl, ?_⟩
      refine ⟨_, rfl, _, rfl, _, _, rfl, rfl, pow10, _, _, rfl, rfl, .inr ⟨_, rfl, _, _, rfl, rfl, cmul_b, ?_⟩⟩
      refine ⟨_, rfl, _, _, rfl, rfl, pow10, _, _, rfl, rfl, _, _, rfl, rfl, (by show (0 : Int) < 10 ^ (18 : Int).toNat + 9; decide), _, rfl, _, _, rfl, rfl, .inl ⟨by decide, by decide⟩, _, _, rfl, rfl, (by show 3 ≤ sizeLine; decide), fun p hp => ?_⟩
      exact q p _ hp (same_upd hp) (bag_made hk0 hk2)
abbrev sp_law_take (K : PySem.W.Frag) : Sp := spTake
theorem ok_law_take (T : Txt K mg) : FnOk P w K mg base CX0 1 (He.fAd K ("_law_take", none)) T.d_law_take ["_law_bag_here", "_law_size"] (sp_law_take K) := by
  refine T.F_law_take.ok sc_law_take (fun vs H Q E h => ?_) (fun cdv A outer s H vs Q E hr h => ?_)
  · obtain ⟨p, z, n, rfl, _⟩ := take_un h
    rfl
  · obtain ⟨p, z, n, rfl, hB, hz0, hz1, hn, q⟩ := take_un h
    refine ⟨_, PSs.nox (pss_cons (ps_if (pt_cmpR op_gt (pe_ix ix_list (pv 0) pe_int (fun _ _ => rfl)) pe_int (nomark _))
      (pss_cons (ps_set (i := 2) sc_law_take.nd rfl (Or.inl rfl) (pe_op op_mod (pe_ix ix_list (pv 0) pe_int (fun _ _ => rfl)) (pv 1)))
      (pss_cons (ps_asg (pe_op op_fdiv (pe_ix ix_list (pv 0) pe_int (fun _ _ => rfl)) (pv 1)) (pg_sub (pv 0) pe_int set_list))
      (pss_one (ps_ret (pv 2)))))
      pss_nil)
      (pss_cons (ps_set (i := 3) sc_law_take.nd rfl (Or.inl rfl) (pe_tup (pa_cons pe_int (pa_cons pe_int (pa_cons pe_int (pa_cons pe_int (pa_cons pe_int (pa_cons pe_int (pa_cons pe_int (pa_cons pe_int pa_nil))))))))))
      (pss_cons (ps_asg (pe_op op_add (pe_ix ix_list (pv 0) pe_int (fun _ _ => rfl)) pe_int) (pg_sub (pv 0) pe_int set_list))
      (pss_cons (ps_set (i := 4) sc_law_take.nd rfl (Or.inl rfl) (pe_ix ix_list (pv 0) pe_int (fun _ _ => rfl)))
      (pss_cons (ps_set (i := 5) sc_law_take.nd rfl (Or.inl rfl) (pe_op op_add (pe_op op_add (pe_op op_mul (pe_ix ix_list (pv 0) pe_int (fun _ _ => rfl)) (pe_op op_add (pe_op op_mul pe_int (pv 4)) pe_int)) (pe_op op_mul (pe_op op_mul pe_int (pv 4)) (pv 4))) pe_int))
      (pss_cons (ps_set (i := 6) sc_law_take.nd rfl (Or.inl rfl) (pe_op op_mod (pe_op op_powL (pv 5) pe_int) (pe_ix ix_tup (pv 3) (pe_op op_mod (pv 4) pe_int) (fun _ _ => rfl))))
      (pss_one (ps_ret (pe_op op_mod (pe_op op_fdiv (pe_op op_mod (pe_op op_mul (pv 6) (pe_op op_add (pe_op op_fdiv (pv 6) pe_int) pe_int)) (pe_ix ix_tup (pv 3) (pe_op op_mod (pe_op op_add (pv 4) pe_int) pe_int) (fun _ _ => rfl))) pe_int) (pv 1)))))))))), ?_⟩
    obtain ⟨a, b, c, hp, ha, hb, hb1, hc, hc1⟩ := hB.ex
    -- if bag[0] > 0
    refine ⟨_, rfl, p, _, _, _, rfl, rfl, SqL.of hp, at0, _, _, rfl, rfl, _, rfl, ?_⟩
    refine ite2 (fun _ => ?_) (fun _ => ?_)
    · -- digit = bag[0] % size
      refine ⟨_, rfl, p, _, _, _, rfl, rfl, SqL.of hp, at0, _, rfl, _, _, rfl, rfl, hz0, ?_⟩
      -- bag[0] = bag[0] // size
      refine ⟨_, rfl, p, _, _, _, rfl, rfl, SqL.of hp, at0, _, rfl, _, _, rfl, rfl, ⟨hz0, hz1⟩, _, rfl, p, _, _, 0, rfl, rfl, hp, rfl, ?_⟩
      refine ⟨_, rfl, ?_⟩
      refine q (a % z) _ (Int.emod_nonneg _ (by omega)) (Int.emod_lt_of_pos _ hz0) ⟨_, _, _, upd_same, Int.ediv_nonneg ha (by omega), hb, hb1, hc, by omega⟩ (mut_keep rfl)
    · -- primes
      refine ⟨by show 8 ≤ sizeLine; decide, fun t ht => ?_⟩
      generalize hE : upd H t _ = H1
      have k1 := new_at hE
      have s1 := new_same hE ht
      have hp1 := s1 _ _ hp
      have npt : p ≠ t := ne_some hp ht
      -- bag[2] = bag[2] + 1
      refine ⟨_, rfl, p, _, _, _, rfl, rfl, SqL.of hp1, at2, _, _, rfl, rfl, _, rfl, p, _, _, 2, rfl, rfl, hp1, rfl, ?_⟩
      generalize hE2 : upd H1 p _ = H2
      have hp2 : H2 p = some (.lst [.int a, .int b, .int (c + 1)]) := new_at hE2
      have kp2 := mut_keep hE2
      have k2 := kp2 _ _ k1 npt.symm
      have bag2 : Bag (n + 1) H2 p := ⟨_, _, _, hp2, ha, hb, hb1, by omega, by omega⟩
      have kpA : Kp p H H2 := (Kp.of s1).trans kp2
      -- stage, basis
      refine ⟨_, rfl, p, _, _, _, rfl, rfl, SqL.of hp2, at2, ?_⟩
      refine ⟨_, rfl, p, _, _, _, rfl, rfl, SqL.of hp2, at1, _, rfl, _, _, rfl, rfl, .inl ⟨by decide, by decide⟩, _, _, rfl, rfl, _, _, rfl, rfl, .inl ⟨by omega, by omega⟩, _, rfl, _, _, rfl, rfl, .inl ⟨by decide, by decide⟩, _, rfl, _, _, rfl, rfl, .inr ⟨by omega, by omega⟩, _, _, rfl, rfl, _, _, rfl, rfl, ?_⟩
      -- found = basis ** 3 % primes[stage % 8]
      obtain ⟨p1, e1, g1, l1⟩ := prime_at (c + 1)
      refine ⟨_, rfl, _, _, rfl, rfl, ⟨by decide, by decide, basis_small hb hb1 (by omega) (by omega)⟩, _, rfl, _, rfl, _, _, rfl, rfl, (by show (0 : Int) < 8; decide), t, _, _, _, rfl, rfl, SqT.of k2, e1, _, _, rfl, rfl, g1, ?_⟩
      generalize hf : (b * (2 * (c + 1) + 1) + 7919 * (c + 1) * (c + 1) + 29) ^ (3 : Int).toNat % p1 = f
      have f0 : 0 ≤ f := by rw [← hf]; exact Int.emod_nonneg _ (by have : 0 < p1 := g1; omega)
      have f1 : f < 2147483648 := by
        have h1 := Int.emod_lt_of_pos ((b * (2 * (c + 1) + 1) + 7919 * (c + 1) * (c + 1) + 29) ^ (3 : Int).toNat) (show 0 < p1 from g1)
        rw [hf] at h1
        omega
      obtain ⟨p2, e2, g2, l2⟩ := prime_at (c + 1 + 5)
      refine ⟨_, rfl, _, rfl, _, _, rfl, rfl, ⟨by decide, by decide⟩, _, _, rfl, rfl, _, _, rfl, rfl, .inl ⟨by omega, by omega⟩, _, rfl, _, rfl, _, _, rfl, rfl, _, _, rfl, rfl, (by show (0 : Int) < 8; decide), t, _, _, _, rfl, rfl, SqT.of k2, e2, _, _, rfl, rfl, g2, _, _, rfl, rfl, ⟨by decide, by decide⟩, _, rfl, _, _, rfl, rfl, hz0, ?_⟩
      exact q _ _ (Int.emod_nonneg _ (by omega)) (Int.emod_lt_of_pos _ hz0) bag2 kpA

/-! ### names drawn -/
def sp_law_name (K : PySem.W.Frag) : Sp := fun vs H Q _ => ∃ (p : Addr) (n : Nat), vs = [.ref p] ∧ Bag n H p ∧ n < 800000000 ∧
  ∀ (x : Str) H', Nm x → Bag (n + 10) H' p → Kp p H H' → Q (.str x) H'
theorem ok_law_name (T : Txt K mg) : FnOk P w K mg base CX0 2 (He.fAd K ("_law_name", none)) T.d_law_name ["_law_bag_here"] (sp_law_name K) := by
  refine T.F_law_name.ok sc_law_name (fun vs H Q E h => ?_) (fun cdv A outer s H vs Q E hr h => ?_)
  · obtain ⟨p, n, rfl, _⟩ := h
    rfl
  · obtain ⟨p, n, rfl, B, hn, q⟩ := h
    refine ⟨_, PSs.nox (pss_cons (ps_set (i := 1) sc_law_name.nd rfl (Or.inr rfl) pe_str)
      (pss_cons (ps_set (i := 2) sc_law_name.nd rfl (Or.inl rfl) (pe_op op_add pe_int (pe_call (ok_law_take T) (hr.mono (by decide)) (by rfl) T.m_law_take T.F_law_take.kp T.b_law_take .nil pass0 (pa_cons (pv 0) (pa_cons (pe_ix ix_list (pe_lst (pa_cons pe_int (pa_cons pe_int pa_nil))) (pe_callTy (T := "int")  call_int1 (by rfl) T.n_int (by decide +kernel) (pa_cons (pe_cmpR op_eq (pe_call (ok_law_take T) (hr.mono (by decide)) (by rfl) T.m_law_take T.F_law_take.kp T.b_law_take .nil pass0 (pa_cons (pv 0) (pa_cons pe_int pa_nil))) pe_int (nomark _)) pa_nil)) (fun _ _ => rfl)) pa_nil)))))
      (pss_one (ps_ret (pe_join pe_str (pe_lc (own := [("_law_spot", 3)]) (by rfl) sc_law_name.nd (pi_range1 (by rfl) T.n_range (pa_cons (pv 2) pa_nil)) (blkOk_by (own := [("_law_spot", 3)]) (N := N_law_name) (sc := defScope s_law_name) (by decide +kernel)) (fun _ _ _ _ _ => (pg_name (i := 3) sc_law_name.nd rfl (Or.inl rfl))) (fun _ _ _ _ _ => pts_nil) (fun _ _ _ _ _ => (pe_ix ix_str (pv 1) (pe_call (ok_law_take T) (hr.mono (by decide)) (by rfl) T.m_law_take T.F_law_take.kp T.b_law_take .nil pass0 (pa_cons (pv 0) (pa_cons pe_int pa_nil))) (fun _ _ => rfl))))))))), ?_⟩
    -- size = 1 + take(bag, [2, 8][int(take(bag, 4) == 0)])
    refine ⟨_, rfl, by show 2 ≤ sizeLine; decide, fun l1 n1 => ?_⟩
    generalize hE1 : upd H l1 _ = H1
    have w1 := new_at hE1
    have s1 := new_same hE1 n1
    have np1 := B.ne n1
    refine ⟨_, rfl, ?_⟩
    refine take_of (z := 4) (B.same s1) (by decide) (by decide) (by omega) fun r2 H2 a2 b2 B2 k2 => ?_
    have ix : ∃ m : Int, 2 ≤ m ∧ m ≤ 8 ∧ atI [V.int 2, V.int 8] (if decide (V.int r2 = V.int 0) = true then 1 else 0) = some (.int m) := by
      cases decide (V.int r2 = V.int 0)
      · exact ⟨2, by decide, by decide, at0⟩
      · exact ⟨8, by decide, by decide, at1⟩
    obtain ⟨m, m0, m1, em⟩ := ix
    refine ⟨rfl, .inr ⟨_, rfl, l1, _, _, _, rfl, rfl, SqL.of (k2 _ _ w1 np1.symm), em, ?_⟩⟩
    refine take_of (z := m) B2 (by omega) (by omega) (by omega) fun r3 H3 a3 b3 B3 k3 => ?_
    have kA : Kp p H H3 := ((Kp.of s1).trans k2).trans k3
    refine ⟨_, _, rfl, rfl, ?_⟩
    -- "".join([..])
    refine ⟨⟨_, rfl⟩, _, rfl, _, rfl, by omega, by omega, fun D nD => ?_⟩
    have npD := B3.ne nD
    refine lc_range (lo := 0) (n := (1 + r3).toNat) (fun i H' => Bag (n + 2 + i) H' p ∧ Kp p H H' ∧ ∃ ys : List Str, ys.length = i ∧ (∀ y ∈ ys, ∃ c, y = ⟨#[c]⟩ ∧ 97 ≤ c ∧ c ≤ 122) ∧ H' D = some (.lst (ys.map V.str)))
      ⟨B3.same (same_upd nD), kA.same (same_upd nD), [], rfl, (fun y hy => nomatch hy), upd_same⟩ ?_ ?_
    · rintro i H4 hi ⟨B4, k4, ys, hl, hy, w4⟩
      refine ⟨rfl, yes_of (iteT ?_)⟩
      refine ⟨_, rfl, _, rfl, ?_⟩
      refine take_of (z := 26) B4 (by decide) (by decide) (by omega) fun r5 H5 a5 b5 B5 k5 => ?_
      obtain ⟨c, ec, c0, c1⟩ := letter_at a5 b5
      have w5 := k5 _ _ w4 npD.symm
      refine ⟨_, _, c, rfl, rfl, by decide +kernel, ec, _, w5, by rw [List.length_map]; exact small1000 (by omega), ?_⟩
      have nDH : H D = none := kA.free nD npD.symm
      refine ⟨B5.keep (mut_keep rfl) npD, (k4.trans k5).own (mut_keep rfl) nDH, ys ++ [⟨#[c]⟩], by rw [List.length_append, hl]; rfl, fun y hyy => ?_, by rw [upd_same, List.map_append]; rfl⟩
      rcases List.mem_append.mp hyy with hyy | hyy
      · exact hy y hyy
      · rw [List.mem_singleton.mp hyy]
        exact ⟨c, rfl, c0, c1⟩
    · rintro H4 ⟨B4, k4, ys, hl, hy, w4⟩
      have hsum : (ys.map (·.length)).sum ≤ 8 := by
        have : ∀ ys : List Str, (∀ y ∈ ys, ∃ c, y = ⟨#[c]⟩ ∧ 97 ≤ c ∧ c ≤ 122) → (ys.map (·.length)).sum = ys.length := by
          intro ys
          induction ys with
          | nil => exact fun _ => rfl
          | cons y ys ih =>
            intro h
            obtain ⟨c, rfl, _⟩ := h y (List.mem_cons_self ..)
            rw [List.map_cons, List.sum_cons, ih fun z hz => h z (List.mem_cons_of_mem _ hz), List.length_cons]
            show 1 + ys.length = ys.length + 1
            omega
        rw [this ys hy]
        omega
      refine ⟨_, D, ys, rfl, rfl, .inl (SqL.of w4), by rw [show (Str.ofString "").length = 0 from by decide +kernel]; omega, ?_⟩
      exact q _ H4 (join_one hy (by omega) (by omega)) (B4.le (by omega)) k4
def sp_law_names (K : PySem.W.Frag) : Sp := fun vs H Q _ => ∃ (p : Addr) (k n : Nat), vs = [.ref p, .int k] ∧ Bag n H p ∧ n < 700000000 ∧ k ≤ 20 ∧
  ∀ (xs : List Str) (l : Addr) H', xs.length = k → xs.Nodup → (∀ x ∈ xs, Nm x) → H l = none → H' l = some (.lst (xs.map V.str)) → Bag (n + 10 * k) H' p → Kp p H H' → Q (.ref l) H'
theorem ok_law_names (T : Txt K mg) : FnOk P w K mg base CX0 3 (He.fAd K ("_law_names", none)) T.d_law_names ["_law_bag_here", "_law_size"] (sp_law_names K) := by
  refine T.F_law_names.ok sc_law_names (fun vs H Q E h => ?_) (fun cdv A outer s H vs Q E hr h => ?_)
  · obtain ⟨p, k, n, rfl, _⟩ := h
    rfl
  · obtain ⟨p, k, n, rfl, B, hn, hk, q⟩ := h
    refine ⟨_, PSs.nox (pss_cons (ps_set (i := 2) sc_law_names.nd rfl (Or.inr rfl) (pe_lst pa_nil))
      (pss_cons (ps_for PassesOwn.never rfl (pi_range1 (by rfl) T.n_range (pa_cons (pv 1) pa_nil)) (pg_name (i := 3) sc_law_names.nd rfl (Or.inl rfl))
      (pss_cons (ps_set (i := 4) sc_law_names.nd rfl (Or.inr rfl) (pe_call (ok_law_name T) (hr.mono (by decide)) (by rfl) T.m_law_name T.F_law_name.kp T.b_law_name .nil pass0 (pa_cons (pv 0) pa_nil)))
      (pss_mid (ps_if (pt_cmpR op_in_seq (pv 4) (pv 2) (by rfl))
      (pss_one (ps_set (i := 4) sc_law_names.nd rfl (Or.inr rfl) (pe_ix ix_list (pe_lc (own := [("_law_one", 5)]) (by rfl) sc_law_names.nd (pi_str pe_str) (blkOk_by (own := [("_law_one", 5)]) (N := N_law_names) (sc := defScope s_law_names) (by decide +kernel)) (fun _ _ _ _ _ => (pg_name (i := 5) sc_law_names.nd rfl (Or.inl rfl))) (fun _ _ _ _ _ => (pts_one (pt_cmpR (r := rIn K true) op_notIn_seq (pe_op op_add_str (pv 5) (pe_slice sl_str (pv 4) (po_some pe_int) po_none)) (pv 2) (by rfl)))) (fun _ _ _ _ _ => (pe_op op_add_str (pv 5) (pe_slice sl_str (pv 4) (po_some pe_int) po_none)))) pe_int (fun _ _ => rfl))))
      pss_nil)
      (pss_one (ps_expr (pe_bm PySem.F.plainAttrs_list PySem.F.slot_list_append PySem.F.type_list_append mt_append (pv 2) (pa_cons (pv 4) pa_nil)))))))
      (pss_one (ps_ret (pv 2))))), ?_⟩
    refine ⟨by show 0 ≤ sizeLine; decide, fun l nl => ?_⟩
    generalize hE1 : upd H l _ = H1
    have w1 := new_at hE1
    have s1 := new_same hE1 nl
    have npl := B.ne nl
    refine ⟨_, rfl, _, rfl, by omega, by omega, for_range (lo := 0) (n := (k : Int).toNat) (fun i σ H' => Bag (n + 10 * i) H' p ∧ Kp p H H' ∧ ∃ (xs : List Str) (y1 y2 y3 : Option V), xs.length = i ∧ xs.Nodup ∧ (∀ x ∈ xs, Nm x) ∧ H' l = some (.lst (xs.map V.str)) ∧ σ = [some (.ref p), some (.int k), some (.ref l), y1, y2, y3])
      ⟨B.same s1, Kp.of s1, [], none, none, none, rfl, List.nodup_nil, (fun x hx => nomatch hx), w1, rfl⟩ ?_ ?_⟩
    · rintro i σ H2 hi ⟨B2, k2, xs, y1, y2, y3, hl, hnd, hnm, w2, rfl⟩
      -- word = name(bag)
      refine ⟨_, rfl, p, n + 10 * i, rfl, B2, by omega, fun w H3 hw B3 k3 => ?_⟩
      have w3 := k3 _ _ w2 npl.symm
      -- if word in found
      refine ⟨fun σ H' => Same H3 H' ∧ ∃ (x : Str) (y3 : Option V), Nm x ∧ x ∉ xs ∧ σ = [some (.ref p), some (.int k), some (.ref l), some (.int (0 + (i : Int))), some (.str x), y3], ?_, ?_⟩
      · refine ⟨_, rfl, _, rfl, l, _, rfl, .inl (SqL.of w3), rfl, strs_flat xs, _, rfl, ?_⟩
        rw [inV_str]
        refine ite2 (fun hc => ?_) (fun hc => ?_)
        · refine ⟨_, rfl, fun D nD => ?_⟩
          refine lc_it (walk_str (z := lettersS)) (fun j H' => Same H3 H' ∧ H' D = some (.lst ((((List.range j).map fun i => (⟨#[97 + i]⟩ : Str) ++ tailS w).filter fun x => decide (x ∉ xs)).map V.str))) ⟨same_upd nD, upd_same⟩ (fun _ _ _ _ => trivial) ?_ ?_
          · rintro j x H4 H4' hj ⟨s4, w4⟩ ⟨rfl, c, hc', rfl⟩
            obtain ⟨hj26, rfl⟩ := letters_get hc'
            refine ⟨rfl, ?_⟩
            have hlen : (tailS w).length ≤ 8 := Nat.le_trans (cutS_length _ _ _) hw.2.2
            have ltot : ((⟨#[97 + j]⟩ : Str).length + (tailS w).length) ≤ sizeLine := by
              have h1 : (⟨#[97 + j]⟩ : Str).length = 1 := rfl
              rw [h1]
              exact Nat.le_of_lt (small1000 (by omega))
            refine ⟨_, rfl, _, rfl, _, rfl, w, rfl, Nat.le_trans hw.2.2 (by decide), _, _, rfl, rfl, ltot, _, rfl, l, _, rfl, .inl (SqL.of (s4 _ _ w3)), rfl, strs_flat xs, _, rfl, ?_⟩
            rw [range_map_succ', List.filter_append, List.map_append]
            show if (if true = true then !inV (.str ((⟨#[97 + j]⟩ : Str) ++ tailS w)) (xs.map V.str) else _) = true then _ else _
            rw [if_pos rfl, inV_str]
            by_cases hin : (⟨#[97 + j]⟩ : Str) ++ tailS w ∈ xs
            · rw [decide_eq_true hin]
              refine iteF ⟨s4, ?_⟩
              rw [List.filter_cons_of_neg (p := fun x => decide (x ∉ xs)) (by rw [decide_eq_false (fun z => z hin)]; exact Bool.false_ne_true)]
              rw [List.filter_nil, List.map_nil, List.append_nil]
              exact w4
            · rw [decide_eq_false hin]
              refine iteT ?_
              refine ⟨_, rfl, _, rfl, _, rfl, w, rfl, Nat.le_trans hw.2.2 (by decide), _, _, rfl, rfl, ltot, _, w4, ?_, Same.own (q := D) (H1 := H4') s4 (mut_keep rfl) nD, ?_⟩
              · rw [List.length_map]
                refine Nat.lt_of_le_of_lt (List.length_filter_le _ _) ?_
                rw [List.length_map, List.length_range]
                exact small1000 (by omega)
              · rw [upd_same, List.filter_cons_of_pos (p := fun x => decide (x ∉ xs)) (decide_eq_true hin)]
                rfl
          · rintro H4 ⟨s4, w4⟩
            rw [letters_size] at w4
            obtain ⟨x, hxm, hxf⟩ := free_in (cands_nodup (tailS w)) (ds := xs) (by unfold cands; rw [List.length_map, List.length_range]; omega)
            generalize hF : ((List.range 26).map fun i => (⟨#[97 + i]⟩ : Str) ++ tailS w).filter (fun x => decide (x ∉ xs)) = fs at w4
            have hmem : ∀ z ∈ fs, Nm z ∧ z ∉ xs := fun z hz => by
              rw [← hF] at hz
              obtain ⟨h1, h2⟩ := List.mem_filter.mp hz
              obtain ⟨i, hi, rfl⟩ := List.mem_map.mp h1
              exact ⟨cand_nm hw (List.mem_range.mp hi), of_decide_eq_true h2⟩
            have hx : x ∈ fs := by
              rw [← hF]
              exact List.mem_filter.mpr ⟨hxm, decide_eq_true hxf⟩
            cases fs with
            | nil => cases hx
            | cons z zs =>
              refine ⟨D, _, _, _, rfl, rfl, SqL.of w4, at0, s4, z, _, (hmem z (List.mem_cons_self ..)).1, (hmem z (List.mem_cons_self ..)).2, rfl⟩
        · refine ⟨Same.refl H3, w, _, hw, fun z => hc (decide_eq_true z), rfl⟩
      · rintro σ H4 ⟨s4, x, y3, hx, hxn, rfl⟩
        have w4 := s4 _ _ w3
        refine ⟨_, rfl, .inl ⟨rfl, _, SqL.of w4⟩, _, rfl, l, _, _, rfl, rfl, w4, by rw [List.length_map]; exact small1000 (by omega), ?_⟩
        have B4 := B3.same s4
        refine ⟨(B4.keep (mut_keep rfl) npl).le (by omega), ((k2.trans k3).same s4).own (mut_keep rfl) nl, xs ++ [x], _, _, _, by rw [List.length_append, hl]; rfl, ?_, fun z hz => ?_, by rw [upd_same, List.map_append]; rfl, rfl⟩
        · rw [List.nodup_append]
          exact ⟨hnd, List.nodup_cons.mpr ⟨by simp, List.nodup_nil⟩, fun a ha b hb e => hxn (by rw [List.mem_singleton.mp hb] at e; rw [← e]; exact ha)⟩
        · rcases List.mem_append.mp hz with hz | hz
          · exact hnm z hz
          · rw [List.mem_singleton.mp hz]
            exact hx
    · rintro σ H2 ⟨B2, k2, xs, y1, y2, y3, hl, hnd, hnm, w2, rfl⟩
      exact ⟨_, rfl, q xs l H2 (by omega) hnd hnm nl w2 (B2.le (by omega)) k2⟩

/-! ### some of a pool -/
def sp_law_some (K : PySem.W.Frag) : Sp := fun vs H Q _ => ∃ (p l : Addr) (k n : Nat) (xs : List Str), vs = [.ref p, .ref l, .int k] ∧ Bag n H p ∧ n < 700000000 ∧ k ≤ 20 ∧ SqL K H l (xs.map V.str) ∧ l ≠ p ∧ xs.Nodup ∧ xs.length ≤ 100 ∧ (∀ x ∈ xs, Nm x) ∧
  ∀ (ys : List Str) (t : Addr) H', ys.Nodup → (∀ y ∈ ys, y ∈ xs) → ys.length ≤ k → H t = none → H' t = some (.tup (ys.map V.str)) → Bag (n + 1 + k) H' p → Kp p H H' → Q (.ref t) H'
theorem ok_law_some (T : Txt K mg) : FnOk P w K mg base CX0 2 (He.fAd K ("_law_some", none)) T.d_law_some ["_law_bag_here", "_law_pool", "_law_most"] (sp_law_some K) := by
  refine T.F_law_some.ok sc_law_some (fun vs H Q E h => ?_) (fun cdv A outer s H vs Q E hr h => ?_)
  · obtain ⟨p, l, k, n, xs, rfl, _⟩ := h
    rfl
  · obtain ⟨p, l, k, n, xs, rfl, B, hn, hk, hL, nlp, hnd, hxl, hnm, q⟩ := h
    refine ⟨_, PSs.nox (pss_cons (ps_set (i := 3) sc_law_some.nd rfl (Or.inl rfl) (pe_callTy (T := "list")  call_list_of (by rfl) T.n_list (by decide +kernel) (pa_cons (pv 1) pa_nil)))
      (pss_cons (ps_set (i := 4) sc_law_some.nd rfl (Or.inl rfl) (pe_lst pa_nil))
      (pss_cons (ps_for PassesOwn.never rfl (pi_range1 (by rfl) T.n_range (pa_cons (pe_call (ok_law_take T) (hr.mono (by decide)) (by rfl) T.m_law_take T.F_law_take.kp T.b_law_take .nil pass0 (pa_cons (pv 0) (pa_cons (pe_op op_add (pv 2) pe_int) pa_nil))) pa_nil)) (pg_name (i := 5) sc_law_some.nd rfl (Or.inl rfl))
      (pss_one (ps_if (pt_cmpR (op_neD hr.units) (pv 3) (pe_lst pa_nil) (nomark _))
      (pss_one (ps_expr (pe_bm PySem.F.plainAttrs_list PySem.F.slot_list_append PySem.F.type_list_append mt_append (pv 4) (pa_cons (pe_bm PySem.F.plainAttrs_list PySem.F.slot_list_pop PySem.F.type_list_pop mt_popAt (pv 3) (pa_cons (pe_call (ok_law_take T) (hr.mono (by decide)) (by rfl) T.m_law_take T.F_law_take.kp T.b_law_take .nil pass0 (pa_cons (pv 0) (pa_cons (pe_callB (id := "len")  call_len_seq (by rfl) T.n_len (by decide +kernel) (pa_cons (pv 3) pa_nil)) pa_nil))) pa_nil)) pa_nil))))
      pss_nil)))
      (pss_one (ps_ret (pe_callTy (T := "tuple")  call_tuple_of (by rfl) T.n_tuple (by decide +kernel) (pa_cons (pv 4) pa_nil))))))), ?_⟩
    -- left = list(pool); found = []
    refine ⟨_, rfl, l, _, rfl, .inl hL, fun a na => ?_⟩
    generalize hE1 : upd H a _ = H1
    have w1 := new_at hE1
    have s1 := new_same hE1 na
    have npa := B.ne na
    refine ⟨by show 0 ≤ sizeLine; decide, fun b nb => ?_⟩
    generalize hE2 : upd H1 b _ = H2
    have w2 := new_at hE2
    have s2 := new_same hE2 nb
    have npb := (B.same s1).ne nb
    have nab : a ≠ b := ne_some w1 nb
    have nbH : H b = none := s1.free nb
    -- range(take(bag, most + 1))
    refine ⟨_, rfl, _, rfl, _, _, rfl, rfl, ?_⟩
    refine take_of (z := (k : Int) + 1) ((B.same s1).same s2) (by omega) (by omega) (by omega) fun r3 H3 a3 b3 B3 k3 => ?_
    have kA : Kp p H H3 := (Kp.of (s1.trans s2)).trans k3
    refine ⟨r3, rfl, by omega, by omega, for_range (lo := 0) (n := r3.toNat) (fun i σ H' => Bag (n + 1 + i) H' p ∧ Kp p H H' ∧ ∃ (ls fs : List Str) (y : Option V), H' a = some (.lst (ls.map V.str)) ∧ H' b = some (.lst (fs.map V.str)) ∧ (fs ++ ls).Nodup ∧ (∀ x ∈ fs ++ ls, x ∈ xs) ∧ fs.length ≤ i ∧ ls.length ≤ 100 ∧
        σ = [some (.ref p), some (.ref l), some (.int k), some (.ref a), some (.ref b), y])
      ⟨B3, kA, xs, [], none, k3 _ _ (s2 _ _ w1) npa.symm, k3 _ _ w2 npb.symm, hnd, fun x hx => hx, Nat.le_refl _, hxl, rfl⟩ ?_ ?_⟩
    · rintro i σ H4 hi ⟨B4, k4, ls, fs, y, wa, wb, hnd4, hsub, hfl, hll, rfl⟩
      have nmL : ∀ x ∈ ls, Nm x := fun x hx => hnm x (hsub x (List.mem_append_right _ hx))
      -- if left != []
      refine ⟨_, rfl, by show 0 ≤ sizeLine; decide, fun l5 n5 => ?_⟩
      generalize hE5 : upd H4 l5 _ = H5
      have w5 : H5 l5 = some (.lst (([] : List Str).map V.str)) := new_at hE5
      have s5 := new_same hE5 n5
      have wa5 := s5 _ _ wa
      have wb5 := s5 _ _ wb
      refine neD_strs (SqL.of wa5) (SqL.of w5) (fun x hx => (nmL x hx).ok) (fun x hx => nomatch hx) ⟨_, rfl, ?_⟩
      by_cases hls : ls = []
      · rw [decide_eq_true hls]
        refine iteF ?_
        exact ⟨(B4.same s5).le (by omega), k4.same s5, ls, fs, _, wa5, wb5, hnd4, hsub, by omega, hll, rfl⟩
      · rw [decide_eq_false hls]
        refine iteT ?_
        have hpos : 0 < ls.length := List.length_pos_iff.mpr hls
        -- found.append(left.pop(take(bag, len(left))))
        refine ⟨_, rfl, .inl ⟨rfl, _, SqL.of wb5⟩, _, rfl, .inl ⟨rfl, _, SqL.of wa5⟩, _, rfl, _, rfl, a, _, rfl, .inl (SqL.of wa5), ?_⟩
        refine take_of (z := ((ls.map V.str).length : Int)) (B4.same s5) (by rw [List.length_map]; omega) (by rw [List.length_map]; omega) (by omega) fun r6 H6 a6 b6 B6 k6 => ?_
        rw [List.length_map] at b6
        have hr : r6.toNat < ls.length := by omega
        have wa6 := k6 _ _ wa5 npa.symm
        have wb6 := k6 _ _ wb5 npb.symm
        refine ⟨a, _, r6, r6.toNat, .str ls[r6.toNat], rfl, rfl, wa6, by omega, by omega, by rw [List.length_map]; exact seq_ix a6 b6, by rw [List.getElem?_map, List.getElem?_eq_getElem hr]; rfl, ?_⟩
        generalize hE7 : upd H6 a _ = H7
        have wa7 := new_at hE7
        have m7 := mut_keep hE7
        have wb7 := m7 _ _ wb6 nab.symm
        refine ⟨b, _, _, rfl, rfl, wb7, by rw [List.length_map]; exact small1000 (by omega), ?_⟩
        generalize hE8 : upd H7 b _ = H8
        have wb8 := new_at hE8
        have m8 := mut_keep hE8
        have hperm : (fs ++ [ls[r6.toNat]] ++ ls.eraseIdx r6.toNat).Perm (fs ++ ls) := by
          rw [List.append_assoc]
          exact List.Perm.append_left fs (perm_pick ls r6.toNat hr)
        refine ⟨((B6.keep m7 npa).keep m8 npb).le (by omega), (((k4.same s5).trans k6).own m7 na).own m8 nbH, ls.eraseIdx r6.toNat, fs ++ [ls[r6.toNat]], _, ?_, by rw [List.map_append]; exact wb8, hperm.nodup_iff.mpr hnd4, fun x hx => hsub x (hperm.mem_iff.mp hx), by rw [List.length_append]; exact Nat.succ_le_succ hfl, Nat.le_trans (List.length_eraseIdx_le ..) hll, rfl⟩
        have wa8 := m8 _ _ wa7 nab
        rw [map_pick] at wa8
        exact wa8
    · rintro σ H4 ⟨B4, k4, ls, fs, y, wa, wb, hnd4, hsub, hfl, hll, rfl⟩
      refine ⟨_, rfl, b, _, rfl, .inl ⟨SqL.of wb, fun t nt => ?_⟩⟩
      have ntp := (B4.ne nt).symm
      exact q fs t _ (List.nodup_append.mp hnd4).1 (fun y hy => hsub y (List.mem_append_left _ hy)) (by omega) (k4.free nt ntp) upd_same ((B4.same (same_upd nt)).le (by omega)) (k4.same (same_upd nt))

/-! ### a rule, its parts -/
def sp_law_rule_parts (K : PySem.W.Frag) : Sp := fun vs H Q _ => ∃ (p : Addr) (n : Nat), vs = [.ref p] ∧ Bag n H p ∧ n < 800000000 ∧
  ∀ (f m t b s : Int) (v : Addr) H', Five f m t b s → H v = none → H' v = some (.tup [.int f, .int m, .int t, .int b, .int s]) → Bag (n + 10) H' p → Kp p H H' → Q (.ref v) H'
theorem ok_law_rule_parts (T : Txt K mg) : FnOk P w K mg base CX0 2 (He.fAd K ("_law_rule_parts", none)) T.d_law_rule_parts ["_law_bag_here"] (sp_law_rule_parts K) := by
  refine T.F_law_rule_parts.ok sc_law_rule_parts (fun vs H Q E h => ?_) (fun cdv A outer s H vs Q E hr h => ?_)
  · obtain ⟨p, n, rfl, _⟩ := h
    rfl
  · obtain ⟨p, n, rfl, B, hn, q⟩ := h
    refine ⟨_, PSs.nox (pss_cons (ps_set (i := 1) sc_law_rule_parts.nd rfl (Or.inl rfl) (pe_lst (pa_cons (pe_op op_add pe_int (pe_call (ok_law_take T) (hr.mono (by decide)) (by rfl) T.m_law_take T.F_law_take.kp T.b_law_take .nil pass0 (pa_cons (pv 0) (pa_cons (pe_ix ix_list (pe_lst (pa_cons pe_int (pa_cons pe_int pa_nil))) (pe_call (ok_law_take T) (hr.mono (by decide)) (by rfl) T.m_law_take T.F_law_take.kp T.b_law_take .nil pass0 (pa_cons (pv 0) (pa_cons pe_int pa_nil))) (fun _ _ => rfl)) pa_nil)))) (pa_cons (pe_op op_add pe_int (pe_call (ok_law_take T) (hr.mono (by decide)) (by rfl) T.m_law_take T.F_law_take.kp T.b_law_take .nil pass0 (pa_cons (pv 0) (pa_cons (pe_ix ix_list (pe_lst (pa_cons pe_int (pa_cons pe_int pa_nil))) (pe_call (ok_law_take T) (hr.mono (by decide)) (by rfl) T.m_law_take T.F_law_take.kp T.b_law_take .nil pass0 (pa_cons (pv 0) (pa_cons pe_int pa_nil))) (fun _ _ => rfl)) pa_nil)))) pa_nil))))
      (pss_cons (ps_expr (pe_bm PySem.F.plainAttrs_list PySem.F.slot_list_append PySem.F.type_list_append mt_append (pv 1) (pa_cons (pe_op op_add pe_int (pe_call (ok_law_take T) (hr.mono (by decide)) (by rfl) T.m_law_take T.F_law_take.kp T.b_law_take .nil pass0 (pa_cons (pv 0) (pa_cons (pe_ix ix_list (pe_lst (pa_cons pe_int (pa_cons pe_int (pa_cons (pe_op op_powL pe_int pe_int) pa_nil)))) (pe_call (ok_law_take T) (hr.mono (by decide)) (by rfl) T.m_law_take T.F_law_take.kp T.b_law_take .nil pass0 (pa_cons (pv 0) (pa_cons pe_int pa_nil))) (fun _ _ => rfl)) pa_nil)))) pa_nil)))
      (pss_cons (ps_expr (pe_bm PySem.F.plainAttrs_list PySem.F.slot_list_append PySem.F.type_list_append mt_append (pv 1) (pa_cons (pe_call (ok_law_take T) (hr.mono (by decide)) (by rfl) T.m_law_take T.F_law_take.kp T.b_law_take .nil pass0 (pa_cons (pv 0) (pa_cons (pe_ix ix_list (pe_lst (pa_cons pe_int (pa_cons pe_int pa_nil))) (pe_call (ok_law_take T) (hr.mono (by decide)) (by rfl) T.m_law_take T.F_law_take.kp T.b_law_take .nil pass0 (pa_cons (pv 0) (pa_cons pe_int pa_nil))) (fun _ _ => rfl)) pa_nil))) pa_nil)))
      (pss_one (ps_ret (pe_callTy (T := "tuple")  call_tuple_of (by rfl) T.n_tuple (by decide +kernel) (pa_cons (pe_op op_cat (pv 1) (pe_lst (pa_cons (pe_call (ok_law_take T) (hr.mono (by decide)) (by rfl) T.m_law_take T.F_law_take.kp T.b_law_take .nil pass0 (pa_cons (pv 0) (pa_cons (pe_ix ix_list (pe_lst (pa_cons pe_int (pa_cons pe_int (pa_cons (pe_op op_add (pe_op op_powL pe_int pe_int) pe_int) pa_nil)))) (pe_call (ok_law_take T) (hr.mono (by decide)) (by rfl) T.m_law_take T.F_law_take.kp T.b_law_take .nil pass0 (pa_cons (pv 0) (pa_cons pe_int pa_nil))) (fun _ _ => rfl)) pa_nil))) pa_nil))) pa_nil))))))), ?_⟩
    refine ⟨_, rfl, by show 2 ≤ sizeLine; decide, fun l1 n1 => ⟨_, rfl, ?_⟩⟩
    refine take_menu (zs := [3, 1000]) B (by omega) n1 rfl (by decide) (by decide) (by decide) fun z1 r1 H1 hz1 a1 b1 B1 k1 => ?_
    refine ⟨_, _, rfl, rfl, _, rfl, by show 2 ≤ sizeLine; decide, fun l2 n2 => ⟨_, rfl, ?_⟩⟩
    refine take_menu (zs := [3, 10]) B1 (by omega) n2 rfl (by decide) (by decide) (by decide) fun z2 r2 H2 hz2 a2 b2 B2 k2 => ?_
    have k12 := k1.trans k2
    refine ⟨_, _, rfl, rfl, by show 2 ≤ sizeLine; decide, fun some n3 => ?_⟩
    have npS := B2.ne n3
    have n3' := k12.free n3 npS.symm
    generalize hE : upd H2 some _ = H3
    have w3 := new_at hE
    have s3 := new_same hE n3
    have k13 := k12.same s3
    -- append top
    refine ⟨_, rfl, .inl ⟨rfl, _, SqL.of w3⟩, _, rfl, _, _, rfl, rfl, pow10, by show 3 ≤ sizeLine; decide, fun l4 n4 => ⟨_, rfl, ?_⟩⟩
    refine take_menu (zs := [20, 1000, 10 ^ (6 : Int).toNat]) (B2.same s3) (by omega) n4 rfl (by decide) (by decide) (by decide) fun z3 r3 H4 hz3 a3 b3 B4 k4 => ?_
    have w4 := k4 _ _ w3 npS.symm
    refine ⟨_, _, rfl, rfl, some, _, _, rfl, rfl, w4, by show 2 < sizeLine; decide, ?_⟩
    generalize hE5 : upd H4 some _ = H5
    have w5 := new_at hE5
    have m5 := mut_keep hE5
    have B5 := B4.keep m5 npS
    have k15 := (k13.trans k4).own m5 n3'
    -- append burst
    refine ⟨_, rfl, .inl ⟨rfl, _, SqL.of w5⟩, _, rfl, by show 2 ≤ sizeLine; decide, fun l6 n6 => ⟨_, rfl, ?_⟩⟩
    refine take_menu (zs := [4, 21]) B5 (by omega) n6 rfl (by decide) (by decide) (by decide) fun z4 r4 H6 hz4 a4 b4 B6 k6 => ?_
    have w6 := k6 _ _ w5 npS.symm
    refine ⟨some, _, _, rfl, rfl, w6, by show 3 < sizeLine; decide, ?_⟩
    generalize hE7 : upd H6 some _ = H7
    have w7 := new_at hE7
    have m7 := mut_keep hE7
    have B7 := B6.keep m7 npS
    have k17 := (k15.trans k6).own m7 n3'
    -- tuple(some + [span])
    refine ⟨_, rfl, _, rfl, _, _, rfl, rfl, pow10, _, _, rfl, rfl, by show 3 ≤ sizeLine; decide, fun l8 n8 => ⟨_, rfl, ?_⟩⟩
    refine take_menu (zs := [30, 1000, 10 ^ (6 : Int).toNat + 1]) B7 (by omega) n8 rfl (by decide) (by decide) (by decide) fun z5 r5 H8 hz5 a5 b5 B8 k8 => ?_
    have w8 := k8 _ _ w7 npS.symm
    refine ⟨by show 1 ≤ sizeLine; decide, fun l9 n9 => ?_⟩
    generalize hE9 : upd H8 l9 _ = H9
    have w9 := new_at hE9
    have s9 := new_same hE9 n9
    refine ⟨some, l9, _, _, rfl, rfl, s9 _ _ w8, w9, by show 5 ≤ sizeLine; decide, fun l10 n10 => ?_⟩
    generalize hE10 : upd H9 l10 _ = H10
    have w10 := new_at hE10
    have s10 := new_same hE10 n10
    refine ⟨l10, _, rfl, .inl ⟨SqL.of w10, fun v nv => ?_⟩⟩
    generalize hE11 : upd H10 v _ = H11
    have w11 := new_at hE11
    have s11 := new_same hE11 nv
    have s8 : Same H8 H11 := (s9.trans s10).trans s11
    have k18 : Kp p H H11 := (k17.trans k8).same s8
    have npv : v ≠ p := fun e => by
      rw [e] at nv
      obtain ⟨o, ho⟩ := (B8.same (s9.trans s10)).some
      rw [ho] at nv
      cases nv
    refine q (1 + r1) (1 + r2) (1 + r3) r4 r5 v H11 ⟨?_, ?_, ?_, ?_, ?_, ?_, ?_, ?_, ?_, ?_⟩ (k17.trans k8 |>.same (s9.trans s10) |>.free nv npv) w11 (B8.same s8) k18
    all_goals (have e6 : (10 : Int) ^ (6 : Int).toNat = 1000000 := by decide
               simp only [List.mem_cons, List.not_mem_nil, or_false, e6] at hz1 hz2 hz3 hz4 hz5; omega)

/-! ### the rule itself -/
abbrev rFs (f m t b s : Int) : List (Str × V) := [("first", .int f), ("times", .int m), ("top", .int t), ("burst", .int b), ("span", .int s)]
/-- a rule stands at a -/
def RuleAt (K : PySem.W.Frag) (H : Hp) (a : Addr) (f m t b s : Int) : Prop := ∃ dx, H a = some (.ins (He.ga K "Rule") dx (rFs f m t b s))
theorem RuleAt.same {H H' : Hp} {a : Addr} {f m t b s : Int} (h : RuleAt K H a f m t b s) (e : Same H H') : RuleAt K H' a f m t b s := by
  obtain ⟨dx, h⟩ := h
  exact ⟨dx, e _ _ h⟩
theorem RuleAt.keep {H H' : Hp} {a p : Addr} {f m t b s : Int} (h : RuleAt K H a f m t b s) (e : Kp p H H') (n : a ≠ p) : RuleAt K H' a f m t b s := by
  obtain ⟨dx, h⟩ := h
  exact ⟨dx, e _ _ h n⟩
def sp_Rule_init (K : PySem.W.Frag) : Sp := fun vs H Q _ => ∃ (p dx : Addr) (f m t b s : Int), vs = [.ref p, .int f, .int m, .int t, .int b, .int s] ∧ H p = some (.ins (He.ga K "Rule") dx []) ∧
  ∀ H', H' p = some (.ins (He.ga K "Rule") dx (rFs f m t b s)) → Kp p H H' → Q .non H'
theorem ok_Rule_init (T : Txt K mg) : FnOk P w K mg base CX0 1 (He.fAd K ("Rule", some "__init__")) T.d_Rule_init ["self", "first", "times", "top", "burst", "span"] (sp_Rule_init K) := by
  refine T.F_Rule_init.ok sc_Rule_init (fun vs H Q E h => ?_) (fun cdv A outer s H vs Q E hr h => ?_)
  · obtain ⟨p, dx, f, m, t, b, s, rfl, _⟩ := h
    rfl
  · obtain ⟨p, dx, f, m, t, b, s, rfl, hp, q⟩ := h
    refine ⟨_, PSs.nox (pss_cons (ps_fld (pv 0) (pv 1) rfl)
      (pss_cons (ps_fld (pv 0) (pv 2) rfl)
      (pss_cons (ps_fld (pv 0) (pv 3) rfl)
      (pss_cons (ps_fld (pv 0) (pv 4) rfl)
      (pss_one (ps_fld (pv 0) (pv 5) rfl)))))), ?_⟩
    refine ⟨_, rfl, _, rfl, p, _, dx, [], rfl, hp, T.cl_Rule, T.na_Rule_first, (by show 0 < 1000; decide), ?_⟩
    refine ⟨_, rfl, _, rfl, p, _, dx, _, rfl, upd_same, T.cl_Rule, T.na_Rule_times, (by show 1 < 1000; decide), ?_⟩
    refine ⟨_, rfl, _, rfl, p, _, dx, _, rfl, upd_same, T.cl_Rule, T.na_Rule_top, (by show 2 < 1000; decide), ?_⟩
    refine ⟨_, rfl, _, rfl, p, _, dx, _, rfl, upd_same, T.cl_Rule, T.na_Rule_burst, (by show 3 < 1000; decide), ?_⟩
    refine ⟨_, rfl, _, rfl, p, _, dx, _, rfl, upd_same, T.cl_Rule, T.na_Rule_span, (by show 4 < 1000; decide), ?_⟩
    refine q _ upd_same fun c o h n => ?_
    rw [upd_ne n, upd_ne n, upd_ne n, upd_ne n, upd_ne n]
    exact h

def sp_law_rule (K : PySem.W.Frag) : Sp := fun vs H Q _ => ∃ (v : Addr) (f m t b s : Int), vs = [.ref v] ∧ SqT K H v [.int f, .int m, .int t, .int b, .int s] ∧
  ∀ a H', H a = none → Same H H' → RuleAt K H' a f m t b s → Q (.ref a) H'
theorem ok_law_rule (T : Txt K mg) : FnOk P w K mg base CX0 3 (He.fAd K ("_law_rule", none)) T.d_law_rule ["_law_five"] (sp_law_rule K) := by
  refine T.F_law_rule.ok sc_law_rule (fun vs H Q E h => ?_) (fun cdv A outer s H vs Q E hr h => ?_)
  · obtain ⟨v, f, m, t, b, s, rfl, _⟩ := h
    rfl
  · obtain ⟨v, f, m, t, b, s, rfl, hv, q⟩ := h
    refine ⟨_, PSs.nox (pss_one (ps_ret (pe_makeK0 T.mk_Rule (ok_Rule_init T) (hr.mono (by decide)) (by rfl) T.m_Rule T.kb_Rule_init_1_first_times_top_burst_span.choose_spec pass0 (pk_cons (pe_ix ix_tup (pv 0) pe_int (fun _ _ => rfl)) (pk_cons (pe_ix ix_tup (pv 0) pe_int (fun _ _ => rfl)) (pk_cons (pe_ix ix_tup (pv 0) pe_int (fun _ _ => rfl)) (pk_cons (pe_ix ix_tup (pv 0) pe_int (fun _ _ => rfl)) (pk_cons (pe_ix ix_tup (pv 0) pe_int (fun _ _ => rfl)) pk_nil)))))))), ?_⟩
    refine ⟨_, rfl, v, _, _, _, rfl, rfl, hv, at0, _, rfl, v, _, _, _, rfl, rfl, hv, at1, _, rfl, v, _, _, _, rfl, rfl, hv, at2, _, rfl, v, _, _, _, rfl, rfl, hv, at3, _, rfl, v, _, _, _, rfl, rfl, hv, at4, rfl, rfl, fun x dx nx nd ne => ?_⟩
    refine ⟨x, dx, f, m, t, b, s, rfl, upd_same, fun H' w kp => ⟨rfl, q x H' nx (Same.made nx nd fun b o e n => kp b o e n) ⟨dx, w⟩⟩⟩

/-! ### the facts -/
def sp_law_facts (K : PySem.W.Frag) : Sp := fun vs H Q _ => ∃ (p : Addr) (k n : Nat), vs = [.ref p, .int k] ∧ Bag n H p ∧ n < 600000000 ∧ 0 < k ∧ k ≤ 16 ∧
  ∀ (ns ss : List Str) (us : List (Str × UF)) (kvs : List (Key × V)) (d : Addr) H', us.map (·.1) = ns → ns.Nodup → (∀ x ∈ ns, Nm x) → 0 < ns.length → ns.length ≤ k → ss.Nodup → (∀ x ∈ ss, Nm x ∧ x ∉ ns) → ss.length ≤ 2 →
    (∀ q ∈ us, UOk ns ss q.1 q.2) → FactsAt H' kvs us → H d = none → H' d = some (.dK kvs) → Bag (n + 2000) H' p → Kp p H H' → Q (.ref d) H'
theorem ok_law_facts (T : Txt K mg) : FnOk P w K mg base CX0 4 (He.fAd K ("_law_facts", none)) T.d_law_facts ["_law_bag_here", "_law_most"] (sp_law_facts K) := by
  refine T.F_law_facts.ok sc_law_facts (fun vs H Q E h => ?_) (fun cdv A outer s H vs Q E hr h => ?_)
  · obtain ⟨p, k, n, rfl, _⟩ := h
    rfl
  · obtain ⟨p, k, n, rfl, B, hn, hk0, hk, q⟩ := h
    refine ⟨_, PSs.nox (pss_cons (ps_set (i := 2) sc_law_facts.nd rfl (Or.inr rfl) (pe_call (ok_law_names T) (hr.mono (by decide)) (by rfl) T.m_law_names T.F_law_names.kp T.b_law_names .nil pass0 (pa_cons (pv 0) (pa_cons (pe_op op_add pe_int (pe_call (ok_law_take T) (hr.mono (by decide)) (by rfl) T.m_law_take T.F_law_take.kp T.b_law_take .nil pass0 (pa_cons (pv 0) (pa_cons (pv 1) pa_nil)))) pa_nil))))
      (pss_cons (ps_set (i := 3) sc_law_facts.nd rfl (Or.inl rfl) (pe_slice sl_list (pe_lc (own := [("_law_one", 16)]) (by rfl) sc_law_facts.nd (pi_str pe_str) (blkOk_by (own := [("_law_one", 16)]) (N := N_law_facts) (sc := defScope s_law_facts) (by decide +kernel)) (fun _ _ _ _ _ => (pg_name (i := 16) sc_law_facts.nd rfl (Or.inl rfl))) (fun _ _ _ _ _ => (pts_one (pt_cmpR (r := rIn K true) op_notIn_seq (pe_op op_add_str (pv 16) pe_str) (pv 2) (by rfl)))) (fun _ _ _ _ _ => (pe_op op_add_str (pv 16) pe_str))) po_none (po_some pe_int)))
      (pss_cons (ps_set (i := 4) sc_law_facts.nd rfl (Or.inl rfl) (pe_cmpR op_eq (pe_call (ok_law_take T) (hr.mono (by decide)) (by rfl) T.m_law_take T.F_law_take.kp T.b_law_take .nil pass0 (pa_cons (pv 0) (pa_cons pe_int pa_nil))) pe_int (nomark _)))
      (pss_cons (ps_set (i := 5) sc_law_facts.nd rfl (Or.inl rfl) pe_dnewK)
      (pss_cons (ps_for PassesOwn.never rfl (pi_list (pv 2)) (pg_name (i := 6) sc_law_facts.nd rfl (Or.inr rfl))
      (pss_cons (ps_setLc (i := 7) (own := [("_law_one", 16)]) (by rfl) sc_law_facts.nd rfl rfl (sw_true rfl rfl rfl (by decide +kernel)) (pi_list (pv 2)) (blkOk_by (own := [("_law_one", 16)]) (N := N_law_facts) (sc := defScope s_law_facts) (by decide +kernel)) (fun _ _ _ _ _ => (pg_name (i := 16) sc_law_facts.nd rfl (Or.inl rfl))) (fun _ _ _ _ _ => (pts_one (pt_cmpR op_ne (pv 16) (pv 6) (nomark _)))) (fun _ _ _ _ _ => (pv 16)))
      (pss_cons (ps_set (i := 8) sc_law_facts.nd rfl (Or.inl rfl) (pe_ix ix_list (pe_lst (pa_cons pe_int (pa_cons pe_int (pa_cons pe_int (pa_cons pe_int (pa_cons pe_int pa_nil)))))) (pe_call (ok_law_take T) (hr.mono (by decide)) (by rfl) T.m_law_take T.F_law_take.kp T.b_law_take .nil pass0 (pa_cons (pv 0) (pa_cons pe_int pa_nil))) (fun _ _ => rfl)))
      (pss_cons (ps_set (i := 9) sc_law_facts.nd rfl (Or.inl rfl) (pe_call (ok_law_some T) (hr.mono (by decide)) (by rfl) T.m_law_some T.F_law_some.kp T.b_law_some .nil pass0 (pa_cons (pv 0) (pa_cons (pe_op op_cat (pv 7) (pe_slice sl_list (pv 3) po_none (po_some (pe_callTy (T := "int")  call_int1 (by rfl) T.n_int (by decide +kernel) (pa_cons (pe_cmpR op_eq (pe_call (ok_law_take T) (hr.mono (by decide)) (by rfl) T.m_law_take T.F_law_take.kp T.b_law_take .nil pass0 (pa_cons (pv 0) (pa_cons pe_int pa_nil))) pe_int (nomark _)) pa_nil))))) (pa_cons (pv 8) pa_nil)))))
      (pss_cons (ps_set (i := 10) sc_law_facts.nd rfl (Or.inl rfl) (pe_call (ok_law_some T) (hr.mono (by decide)) (by rfl) T.m_law_some T.F_law_some.kp T.b_law_some .nil pass0 (pa_cons (pv 0) (pa_cons (pe_op op_cat (pv 7) (pe_slice sl_list (pv 3) po_none (po_some (pe_callTy (T := "int")  call_int1 (by rfl) T.n_int (by decide +kernel) (pa_cons (pe_cmpR op_eq (pe_call (ok_law_take T) (hr.mono (by decide)) (by rfl) T.m_law_take T.F_law_take.kp T.b_law_take .nil pass0 (pa_cons (pv 0) (pa_cons pe_int pa_nil))) pe_int (nomark _)) pa_nil))))) (pa_cons (pe_ix ix_list (pe_lst (pa_cons pe_int (pa_cons pe_int (pa_cons pe_int pa_nil)))) (pe_call (ok_law_take T) (hr.mono (by decide)) (by rfl) T.m_law_take T.F_law_take.kp T.b_law_take .nil pass0 (pa_cons (pv 0) (pa_cons pe_int pa_nil))) (fun _ _ => rfl)) pa_nil)))))
      (pss_cons (ps_set (i := 11) sc_law_facts.nd rfl (Or.inl rfl) (pe_call (ok_law_some T) (hr.mono (by decide)) (by rfl) T.m_law_some T.F_law_some.kp T.b_law_some .nil pass0 (pa_cons (pv 0) (pa_cons (pe_op op_cat (pv 7) (pe_slice sl_list (pv 3) po_none (po_some pe_int))) (pa_cons (pe_op op_mul (pe_ix ix_list (pe_lst (pa_cons pe_int (pa_cons pe_int (pa_cons pe_int (pa_cons pe_int pa_nil))))) (pe_call (ok_law_take T) (hr.mono (by decide)) (by rfl) T.m_law_take T.F_law_take.kp T.b_law_take .nil pass0 (pa_cons (pv 0) (pa_cons pe_int pa_nil))) (fun _ _ => rfl)) (pe_callTy (T := "int")  call_int1 (by rfl) T.n_int (by decide +kernel) (pa_cons (pe_not (pv 4)) pa_nil))) pa_nil)))))
      (pss_cons (ps_set (i := 12) sc_law_facts.nd rfl (Or.inl rfl) (pe_call (ok_law_some T) (hr.mono (by decide)) (by rfl) T.m_law_some T.F_law_some.kp T.b_law_some .nil pass0 (pa_cons (pv 0) (pa_cons (pe_op op_cat (pv 7) (pv 3)) (pa_cons (pe_ix ix_list (pe_lst (pa_cons pe_int (pa_cons pe_int (pa_cons pe_int (pa_cons pe_int pa_nil))))) (pe_call (ok_law_take T) (hr.mono (by decide)) (by rfl) T.m_law_take T.F_law_take.kp T.b_law_take .nil pass0 (pa_cons (pv 0) (pa_cons pe_int pa_nil))) (fun _ _ => rfl)) pa_nil)))))
      (pss_cons (ps_set (i := 13) sc_law_facts.nd rfl (Or.inl rfl) (pe_ix ix_list (pe_lst (pa_cons pe_str (pa_cons pe_str (pa_cons pe_str (pa_cons pe_str (pa_cons pe_str pa_nil)))))) (pe_call (ok_law_take T) (hr.mono (by decide)) (by rfl) T.m_law_take T.F_law_take.kp T.b_law_take .nil pass0 (pa_cons (pv 0) (pa_cons pe_int pa_nil))) (fun _ _ => rfl)))
      (pss_cons (ps_set (i := 14) sc_law_facts.nd rfl (Or.inl rfl) (pe_mid (pe_ifExp (pt_cmpR op_eq (pv 13) pe_str (nomark _)) (pe_ix ix_list (pe_op op_cat (pv 7) (pv 3)) (pe_call (ok_law_take T) (hr.mono (by decide)) (by rfl) T.m_law_take T.F_law_take.kp T.b_law_take .nil pass0 (pa_cons (pv 0) (pa_cons (pe_op op_add (pe_callB (id := "len")  call_len_seq (by rfl) T.n_len (by decide +kernel) (pa_cons (pv 7) pa_nil)) pe_int) pa_nil))) (fun _ _ => rfl)) pe_non)))
      (pss_cons (ps_set (i := 15) sc_law_facts.nd rfl (Or.inl rfl) (pe_mid (pe_ifExp (pt_cmpR op_gt (pe_call (ok_law_take T) (hr.mono (by decide)) (by rfl) T.m_law_take T.F_law_take.kp T.b_law_take .nil pass0 (pa_cons (pv 0) (pa_cons pe_int pa_nil))) pe_int (nomark _)) (pe_call (ok_law_rule_parts T) (hr.mono (by decide)) (by rfl) T.m_law_rule_parts T.F_law_rule_parts.kp T.b_law_rule_parts .nil pass0 (pa_cons (pv 0) pa_nil)) pe_non)))
      (pss_one (ps_dput (hu_of hr) (pv 5) (pv 6) (pe_tup (pa_cons (pv 13) (pa_cons (pv 9) (pa_cons (pv 10) (pa_cons (pv 11) (pa_cons (pv 12) (pa_cons (pv 14) (pa_cons (pv 15) pa_nil)))))))) rfl))))))))))))
      (pss_one (ps_ret (pv 5)))))))), ?_⟩
    -- named = names(bag, 1 + take(bag, most))
    refine ⟨_, rfl, _, rfl, _, rfl, ?_⟩
    refine take_of (z := (k : Int)) B (by omega) (by omega) (by omega) fun r1 H1 a1 b1 B1 k1 => ?_
    obtain ⟨j1, rfl⟩ := Int.eq_ofNat_of_zero_le a1
    refine ⟨_, _, rfl, rfl, p, 1 + j1, n + 1, rfl, B1, by omega, by omega, fun ns l H2 hnl hnd hnm nl w2 B2 k2 => ?_⟩
    have kA := k1.trans k2
    have npl : l ≠ p := fun e => by
      obtain ⟨o, ho⟩ := B1.some
      rw [e, ho] at nl
      cases nl
    -- strange
    refine ⟨_, rfl, fun D nD => ?_⟩
    refine lc_it (walk_str (z := srettelS)) (fun j H' => Same H2 H' ∧ H' D = some (.lst ((((List.range j).map fun i => (⟨#[122 - i]⟩ : Str) ++ Str.ofString "zz").filter fun x => decide (x ∉ ns)).map V.str))) ⟨same_upd nD, upd_same⟩ (fun _ _ _ _ => trivial) ?_ ?_
    · rintro j x H4 H4' hj ⟨s4, w4⟩ ⟨rfl, c, hc', rfl⟩
      obtain ⟨hj26, rfl⟩ := srettel_get hc'
      refine ⟨rfl, ?_⟩
      have ltot : ((⟨#[122 - j]⟩ : Str).length + (Str.ofString "zz").length) ≤ sizeLine := by
        have h1 : (⟨#[122 - j]⟩ : Str).length = 1 := rfl
        rw [h1]
        decide +kernel
      refine ⟨_, rfl, _, _, rfl, rfl, ltot, _, rfl, l, _, rfl, .inl (SqL.of (s4 _ _ w2)), rfl, strs_flat ns, _, rfl, ?_⟩
      rw [range_map_succ', List.filter_append, List.map_append]
      show if (if true = true then !inV (.str ((⟨#[122 - j]⟩ : Str) ++ Str.ofString "zz")) (ns.map V.str) else _) = true then _ else _
      rw [if_pos rfl, inV_str]
      by_cases hin : (⟨#[122 - j]⟩ : Str) ++ Str.ofString "zz" ∈ ns
      · rw [decide_eq_true hin]
        refine iteF ⟨s4, ?_⟩
        rw [List.filter_cons_of_neg (p := fun x => decide (x ∉ ns)) (by rw [decide_eq_false (fun z => z hin)]; exact Bool.false_ne_true)]
        rw [List.filter_nil, List.map_nil, List.append_nil]
        exact w4
      · rw [decide_eq_false hin]
        refine iteT ?_
        refine ⟨_, rfl, _, _, rfl, rfl, ltot, _, w4, ?_, Same.own (q := D) (H1 := H4') s4 (mut_keep rfl) nD, ?_⟩
        · rw [List.length_map]
          refine Nat.lt_of_le_of_lt (List.length_filter_le _ _) ?_
          rw [List.length_map, List.length_range]
          exact small1000 (by omega)
        · rw [upd_same, List.filter_cons_of_pos (p := fun x => decide (x ∉ ns)) (decide_eq_true hin)]
          rfl
    rintro H4 ⟨s4, w4⟩
    rw [srettel_size] at w4
    have hpos := filter_free (rcands_nodup (Str.ofString "zz")) (ds := ns) (by unfold rcands; rw [List.length_map, List.length_range]; omega)
    have hcn := List.Nodup.sublist List.filter_sublist (rcands_nodup (Str.ofString "zz")) (l₁ := (rcands (Str.ofString "zz")).filter fun x => decide (x ∉ ns))
    have hcm : ∀ x ∈ (rcands (Str.ofString "zz")).filter fun x => decide (x ∉ ns), Nm x ∧ x ∉ ns := fun x hx => by
      obtain ⟨h1, h2⟩ := List.mem_filter.mp hx
      obtain ⟨i, hi, rfl⟩ := List.mem_map.mp h1
      exact ⟨rcand_nm (List.mem_range.mp hi), of_decide_eq_true h2⟩
    change H4 D = some (.lst (((rcands (Str.ofString "zz")).filter fun x => decide (x ∉ ns)).map V.str)) at w4
    generalize (rcands (Str.ofString "zz")).filter (fun x => decide (x ∉ ns)) = fs at hpos hcn hcm w4
    refine ⟨_, rfl, D, _, rfl, SqL.of w4, fun a na => ?_⟩
    rw [show cutV (fs.map V.str) none (some 2) = (fs.take 2).map V.str from cutV_strs fs 2]
    have ssn : (fs.take 2).Nodup := List.Nodup.sublist (List.take_sublist _ _) hcn
    have ssm : ∀ x ∈ fs.take 2, Nm x ∧ x ∉ ns := fun x hx => hcm x (List.mem_of_mem_take hx)
    have ssl : (fs.take 2).length ≤ 2 := by rw [List.length_take]; omega
    have ssp : 0 < (fs.take 2).length := by rw [List.length_take]; omega
    generalize fs.take 2 = ss at ssn ssm ssl ssp
    generalize hE5 : upd H4 a _ = H5
    have wa := new_at hE5
    have s5 := s4.trans (new_same hE5 na)
    have wl := s5 _ _ w2
    have npa : p ≠ a := (B2.same s4).ne na
    have nla : l ≠ a := ne_some (s4 _ _ w2) na
    -- loose
    refine ⟨_, rfl, ?_⟩
    refine take_of (z := 4) (B2.same s5) (by decide) (by decide) (by omega) fun r6 H6 a6 b6 B6 k6 => ?_
    have kB := (kA.same s5).trans k6
    have wl6 := k6 _ _ wl npl
    have wa6 := k6 _ _ wa npa.symm
    refine ⟨rfl, fun d nd => ?_⟩
    generalize decide (V.int r6 = V.int 0) = loose
    generalize hE7 : upd H6 d _ = H7
    have wd := new_at hE7
    have s7 := new_same hE7 nd
    have npd := B6.ne nd
    have nld : l ≠ d := ne_some wl6 nd
    have nad : a ≠ d := ne_some wa6 nd
    have ndH : H d = none := kB.free nd npd.symm
    -- for word in named
    refine ⟨_, rfl, l, rfl, ⟨_, SqL.of (s7 _ _ wl6)⟩, for_list (xs := ns.map V.str) (fun i σ H' => Bag (n + 300 + 100 * i) H' p ∧ Kp p H H' ∧ ∃ (us : List (Str × UF)) (kvs : List (Key × V)) (y6 y7 y8 y9 y10 y11 y12 y13 y14 y15 y16 : Option V), us.map (·.1) = ns.take i ∧ (∀ q ∈ us, UOk ns ss q.1 q.2) ∧ FactsAt H' kvs us ∧ H' d = some (.dK kvs) ∧ H' l = some (.lst (ns.map V.str)) ∧ H' a = some (.lst (ss.map V.str)) ∧
        σ = [some (.ref p), some (.int k), some (.ref l), some (.ref a), some (.bl loose), some (.ref d), y6, y7, y8, y9, y10, y11, y12, y13, y14, y15, y16])
      ⟨(B6.same s7).le (by omega), kB.same s7, [], [], none, none, none, none, none, none, none, none, none, none, none, rfl, (fun q hq => nomatch hq), .nil, wd, s7 _ _ wl6, s7 _ _ wa6, rfl⟩ ?_ ?_ ?_⟩
    · rintro i σ H' hi ⟨B8, k8, us, kvs, y6, y7, y8, y9, y10, y11, y12, y13, y14, y15, y16, hus, huo, hfa, wd8, wl8, wa8, rfl⟩
      exact SqL.of wl8
    · rintro i x σ H8 hi ⟨B8, k8, us, kvs, y6, y7, y8, y9, y10, y11, y12, y13, y14, y15, y16, hus, huo, hfa, wd8, wl8, wa8, rfl⟩
      obtain ⟨word, hword, rfl⟩ := map_str_get hi
      have hil : i < ns.length := by
        rw [List.getElem?_eq_some_iff] at hword
        exact hword.1
      have hwn : word ∈ ns := List.mem_of_getElem? hword
      -- pool
      refine ⟨_, rfl, l, rfl, ⟨_, SqL.of wl8⟩, fun D nD => ?_⟩
      refine lc_list (xs := ns.map V.str) (fun j H' => Same H8 H' ∧ H' D = some (.lst (((ns.take j).filter fun x => decide (x ≠ word)).map V.str))) ⟨same_upd nD, upd_same⟩ (fun j H' hj h => SqL.of (h.1 _ _ wl8)) ?_ ?_
      · rintro j x H9 hj ⟨s9, w9⟩
        obtain ⟨one, hone, rfl⟩ := map_str_get hj
        refine ⟨rfl, ?_⟩
        rw [take_filter_snoc _ hone]
        refine ⟨_, rfl, _, rfl, rfl, _, rfl, ?_⟩
        by_cases he : one = word
        · subst he
          rw [decide_eq_true (show V.str one = V.str one from rfl)]
          refine iteF ⟨s9, ?_⟩
          rw [if_neg (by rw [decide_eq_false (fun z => z rfl)]; exact Bool.false_ne_true), List.append_nil]
          exact w9
        · rw [decide_eq_false (fun z : V.str one = V.str word => he (by injection z))]
          refine iteT ⟨_, rfl, _, w9, ?_, Same.own (q := D) (H1 := H9) s9 (mut_keep rfl) nD, ?_⟩
          · rw [List.length_map]
            refine Nat.lt_of_le_of_lt (List.length_filter_le _ _) (Nat.lt_of_le_of_lt (List.length_take_le' ..) (small1000 ?_))
            omega
          · rw [upd_same, if_pos (decide_eq_true he), List.map_append]
            rfl
      rintro H9 ⟨s9, wp9⟩
      rw [List.length_map, List.take_length] at wp9
      have mixed := fun zs => mix_ok (zs := zs) hnd ssn hnm ssm (by omega) ssl hwn
      have plen : (ns.filter fun x => decide (x ≠ word)).length ≤ 20 := Nat.le_trans (List.length_filter_le _ _) (by omega)
      generalize hpool : (ns.filter fun x => decide (x ≠ word)) = pool at mixed wp9 plen
      have B9 := B8.same s9
      have npD : p ≠ D := B8.ne nD
      have wa9 := s9 _ _ wa8
      have wl9 := s9 _ _ wl8
      have wd9 := s9 _ _ wd8
      have fa9 := hfa.same s9
      -- wide
      refine ⟨by show 5 ≤ sizeLine; decide, fun l1 n1 => ⟨_, rfl, ?_⟩⟩
      refine pick_menu [V.int (0 : Nat), V.int (1 : Nat), V.int (1 : Nat), V.int (2 : Nat), V.int (4 : Nat)] B9 (by omega) n1 rfl (by decide) (by decide) fun wide H10 hwide B10 k10 => ?_
      obtain ⟨wd10, rfl, hwd⟩ : ∃ j : Nat, wide = .int j ∧ j ≤ 4 := by
        simp only [List.mem_cons, List.not_mem_nil, or_false] at hwide
        rcases hwide with rfl | rfl | rfl | rfl | rfl
        · exact ⟨0, rfl, by decide⟩
        · exact ⟨1, rfl, by decide⟩
        · exact ⟨1, rfl, by decide⟩
        · exact ⟨2, rfl, by decide⟩
        · exact ⟨4, rfl, by decide⟩
      -- musts
      refine ⟨_, rfl, _, rfl, _, rfl, _, rfl, ?_⟩
      refine take_of (z := 12) B10 (by decide) (by decide) (by omega) fun r11 H11 a11 b11 B11 k11 => ?_
      have kk11 := k10.trans k11
      refine ⟨rfl, .inr ⟨_, rfl, _, rfl, a, _, rfl, SqL.of (kk11 _ _ wa9 npa.symm), fun c1 n12 => ?_⟩⟩
      obtain ⟨m1, hm1⟩ := cutV_bit ss (decide (V.int r11 = V.int 0))
      rw [hm1]
      generalize hE12 : upd H11 c1 _ = H12
      have wc12 := new_at hE12
      have s12 := new_same hE12 n12
      have kk12 := kk11.same s12
      refine ⟨D, c1, _, _, rfl, rfl, kk12 _ _ wp9 npD.symm, wc12, by rw [List.length_map, List.length_map, List.length_take]; exact Nat.le_of_lt (small1000 (by omega)), fun c2 n13 => ?_⟩
      rw [← List.map_append]
      generalize hE13 : upd H12 c2 _ = H13
      have wc13 := new_at hE13
      have kk13 := kk12.same (new_same hE13 n13)
      have B13 := (B11.same s12).same (new_same hE13 n13)
      obtain ⟨x1, x2, x3, x4⟩ := mixed (ss.take m1) (List.take_sublist _ _)
      refine ⟨_, rfl, p, c2, wd10, _, _, rfl, B13, by omega, by omega, SqL.of wc13, ((B11.same s12).ne n13).symm, x1, x2, x3, fun musts t1 H14 u1 u2 u3 nt1 wt1 B14 k14 => ?_⟩
      have kk14 := kk13.trans k14
      have npt1 : t1 ≠ p := fun e => by
        rw [e] at wt1
        exact B14.notTup _ wt1
      have hmusts : ∀ x ∈ musts, (x ∈ ns ∨ x ∈ ss) ∧ x ≠ word := fun x hx => x4 x (u2 x hx)
      -- likes
      refine ⟨_, rfl, _, rfl, _, rfl, _, rfl, ?_⟩
      refine take_of (z := 3) B14 (by decide) (by decide) (by omega) fun r15 H15 a15 b15 B15 k15 => ?_
      have kk15 := kk14.trans k15
      refine ⟨rfl, .inr ⟨_, rfl, _, rfl, a, _, rfl, SqL.of (kk15 _ _ wa9 npa.symm), fun c3 n16 => ?_⟩⟩
      obtain ⟨m2, hm2⟩ := cutV_bit ss (decide (V.int r15 = V.int 0))
      rw [hm2]
      generalize hE16 : upd H15 c3 _ = H16
      have wc16 := new_at hE16
      have s16 := new_same hE16 n16
      have kk16 := kk15.same s16
      refine ⟨D, c3, _, _, rfl, rfl, kk16 _ _ wp9 npD.symm, wc16, by rw [List.length_map, List.length_map, List.length_take]; exact Nat.le_of_lt (small1000 (by omega)), fun c4 n17 => ?_⟩
      rw [← List.map_append]
      generalize hE17 : upd H16 c4 _ = H17
      have wc17 := new_at hE17
      have s17 := new_same hE17 n17
      have kk17 := kk16.same s17
      have B17 := (B15.same s16).same s17
      have np4 : p ≠ c4 := (B15.same s16).ne n17
      obtain ⟨x5, x6, x7, x8⟩ := mixed (ss.take m2) (List.take_sublist _ _)
      refine ⟨by show 3 ≤ sizeLine; decide, fun l2 n2 => ⟨_, rfl, ?_⟩⟩
      refine pick_menu [V.int (1 : Nat), V.int (3 : Nat), V.int (8 : Nat)] B17 (by omega) n2 rfl (by decide) (by decide) fun wide2 H18 hwide2 B18 k18 => ?_
      obtain ⟨wd18, rfl, hwd18⟩ : ∃ j : Nat, wide2 = .int j ∧ j ≤ 8 := by
        simp only [List.mem_cons, List.not_mem_nil, or_false] at hwide2
        rcases hwide2 with rfl | rfl | rfl
        · exact ⟨1, rfl, by decide⟩
        · exact ⟨3, rfl, by decide⟩
        · exact ⟨8, rfl, by decide⟩
      refine ⟨p, c4, wd18, _, _, rfl, B18, by omega, by omega, SqL.of (k18 _ _ wc17 np4.symm), np4.symm, x5, x6, x7, fun likes t2 H19 u4 u5 u6 nt2 wt2 B19 k19 => ?_⟩
      have kk19 := (kk17.trans k18).trans k19
      have kl19 : Kp p H14 H19 := (((k15.same s16).same s17).trans k18).trans k19
      have npt2 : t2 ≠ p := fun e => by
        rw [e] at wt2
        exact B19.notTup _ wt2
      have hlikes : ∀ x ∈ likes, (x ∈ ns ∨ x ∈ ss) ∧ x ≠ word := fun x hx => x8 x (u5 x hx)
      have wt1b := kl19 _ _ wt1 npt1
      -- foes
      refine ⟨_, rfl, _, rfl, _, rfl, _, rfl, a, _, rfl, SqL.of (kk19 _ _ wa9 npa.symm), fun c5 n20 => ?_⟩
      rw [show cutV (ss.map V.str) none (some 1) = (ss.take 1).map V.str from cutV_strs ss 1]
      generalize hE20 : upd H19 c5 _ = H20
      have wc20 := new_at hE20
      have s20 := new_same hE20 n20
      have kk20 := kk19.same s20
      refine ⟨D, c5, _, _, rfl, rfl, kk20 _ _ wp9 npD.symm, wc20, by rw [List.length_map, List.length_map, List.length_take]; exact Nat.le_of_lt (small1000 (by omega)), fun c6 n21 => ?_⟩
      rw [← List.map_append]
      generalize hE21 : upd H20 c6 _ = H21
      have wc21 := new_at hE21
      have s21 := new_same hE21 n21
      have B21 := (B19.same s20).same s21
      have np6 : p ≠ c6 := (B19.same s20).ne n21
      obtain ⟨x9, x10, x11, x12⟩ := mixed (ss.take 1) (List.take_sublist _ _)
      refine ⟨by show 4 ≤ sizeLine; decide, fun l3 n3 => ⟨_, rfl, ?_⟩⟩
      refine pick_menu [V.int (0 : Nat), V.int (0 : Nat), V.int (1 : Nat), V.int (2 : Nat)] B21 (by omega) n3 rfl (by decide) (by decide) fun wide3 H22 hwide3 B22 k22 => ?_
      obtain ⟨wd22, rfl, hwd22⟩ : ∃ j : Nat, wide3 = .int j ∧ j ≤ 2 := by
        simp only [List.mem_cons, List.not_mem_nil, or_false] at hwide3
        rcases hwide3 with rfl | rfl | rfl | rfl
        · exact ⟨0, rfl, by decide⟩
        · exact ⟨0, rfl, by decide⟩
        · exact ⟨1, rfl, by decide⟩
        · exact ⟨2, rfl, by decide⟩
      obtain ⟨wd23, e23, hwd23⟩ : ∃ j : Nat, ((wd22 : Nat) : Int) * (if (!loose) = true then 1 else 0) = (j : Int) ∧ j ≤ 2 := by
        cases loose
        · exact ⟨wd22, Int.mul_one _, hwd22⟩
        · exact ⟨0, Int.mul_zero _, by decide⟩
      refine ⟨_, rfl, _, rfl, .inr ⟨_, rfl, _, _, rfl, rfl, cmul_b, ?_⟩⟩
      refine ⟨p, c6, wd23, _, _, (by show [V.ref p, V.ref c6, V.int _] = _; rw [e23]), B22, by omega, by omega, SqL.of (k22 _ _ wc21 np6.symm), np6.symm, x9, x10, x11, fun foes t3 H24 u7 u8 u9 nt3 wt3 B24 k24 => ?_⟩
      have kl24 : Kp p H19 H24 := (((Kp.of s20).same s21).trans k22).trans k24
      have kk24 := kk19.trans kl24
      have npt3 : t3 ≠ p := fun e => by
        rw [e] at wt3
        exact B24.notTup _ wt3
      have hfoes : ∀ x ∈ foes, (x ∈ ns ∨ x ∈ ss) ∧ x ≠ word := fun x hx => x12 x (u8 x hx)
      have wt1c := kl24 _ _ wt1b npt1
      have wt2c := kl24 _ _ wt2 npt2
      -- elders
      refine ⟨_, rfl, _, rfl, _, rfl, D, a, _, _, rfl, rfl, kk24 _ _ wp9 npD.symm, kk24 _ _ wa9 npa.symm, by rw [List.length_map, List.length_map]; exact Nat.le_of_lt (small1000 (by omega)), fun c7 n25 => ?_⟩
      rw [← List.map_append]
      generalize hE25 : upd H24 c7 _ = H25
      have wc25 := new_at hE25
      have s25 := new_same hE25 n25
      have np7 : p ≠ c7 := B24.ne n25
      obtain ⟨x13, x14, x15, x16⟩ := mixed ss (List.Sublist.refl _)
      refine ⟨by show 4 ≤ sizeLine; decide, fun l4 n4 => ⟨_, rfl, ?_⟩⟩
      refine pick_menu [V.int (0 : Nat), V.int (1 : Nat), V.int (2 : Nat), V.int (8 : Nat)] (B24.same s25) (by omega) n4 rfl (by decide) (by decide) fun wide4 H26 hwide4 B26 k26 => ?_
      obtain ⟨wd26, rfl, hwd26⟩ : ∃ j : Nat, wide4 = .int j ∧ j ≤ 8 := by
        simp only [List.mem_cons, List.not_mem_nil, or_false] at hwide4
        rcases hwide4 with rfl | rfl | rfl | rfl
        · exact ⟨0, rfl, by decide⟩
        · exact ⟨1, rfl, by decide⟩
        · exact ⟨2, rfl, by decide⟩
        · exact ⟨8, rfl, by decide⟩
      refine ⟨p, c7, wd26, _, _, rfl, B26, by omega, by omega, SqL.of (k26 _ _ wc25 np7.symm), np7.symm, x13, x14, x15, fun elders t4 H27 u10 u11 u12 nt4 wt4 B27 k27 => ?_⟩
      have kl27 : Kp p H24 H27 := ((Kp.of s25).trans k26).trans k27
      have kk27 := kk24.trans kl27
      have npt4 : t4 ≠ p := fun e => by
        rw [e] at wt4
        exact B27.notTup _ wt4
      have helders : ∀ x ∈ elders, (x ∈ ns ∨ x ∈ ss) ∧ x ≠ word := fun x hx => x16 x (u11 x hx)
      have wt1d := kl27 _ _ wt1c npt1
      have wt2d := kl27 _ _ wt2c npt2
      have wt3d := kl27 _ _ wt3 npt3
      -- sort
      refine ⟨by show 5 ≤ sizeLine; decide, fun l5 n5 => ⟨_, rfl, ?_⟩⟩
      refine pick_menu [V.str (Str.ofString "work"), V.str (Str.ofString "work"), V.str (Str.ofString "work"), V.str (Str.ofString "goal"), V.str (Str.ofString "door")] B27 (by omega) n5 rfl (by decide) (by decide) fun sortV H28 hsort B28 k28 => ?_
      obtain ⟨sort, rfl, hsort'⟩ : ∃ z : Str, sortV = .str z ∧ (z = Str.ofString "work" ∨ z = Str.ofString "goal" ∨ z = Str.ofString "door") := by
        simp only [List.mem_cons, List.not_mem_nil, or_false] at hsort
        rcases hsort with rfl | rfl | rfl | rfl | rfl
        · exact ⟨_, rfl, .inl rfl⟩
        · exact ⟨_, rfl, .inl rfl⟩
        · exact ⟨_, rfl, .inl rfl⟩
        · exact ⟨_, rfl, .inr (.inl rfl)⟩
        · exact ⟨_, rfl, .inr (.inr rfl)⟩
      have kk28 := kk27.trans k28
      have kl28 := k28
      -- goal
      refine ⟨fun v H' => Bag (n + 300 + 100 * i + 61) H' p ∧ Kp p H28 H' ∧ ∃ g : Option Str, v = optV g ∧ (∀ x ∈ g.toList, (x ∈ ns ∨ x ∈ ss) ∧ x ≠ word) ∧ (sort = Str.ofString "door" → g ≠ none) ∧ (sort ≠ Str.ofString "door" → g = none), ?_, ?_⟩
      · refine ⟨_, rfl, rfl, _, rfl, ?_⟩
        by_cases hdoor : sort = Str.ofString "door"
        · subst hdoor
          refine iteYd rfl ?_
          have wp28 := kk28 _ _ wp9 npD.symm
          refine ⟨_, rfl, _, rfl, D, a, _, _, rfl, rfl, wp28, kk28 _ _ wa9 npa.symm, by rw [List.length_map, List.length_map]; exact Nat.le_of_lt (small1000 (by omega)), fun c8 n29 => ?_⟩
          rw [← List.map_append]
          generalize hE29 : upd H28 c8 _ = H29
          have wc29 := new_at hE29
          have s29 := new_same hE29 n29
          have np8 : p ≠ c8 := B28.ne n29
          refine ⟨_, rfl, _, rfl, D, _, rfl, .inl (SqL.of (s29 _ _ wp28)), _, _, rfl, rfl, ?_⟩
          refine take_of (z := ((pool.map V.str).length : Int) + 1) (B28.same s29) (by omega) (by rw [List.length_map]; omega) (by omega) fun r30 H30 a30 b30 B30 k30 => ?_
          rw [List.length_map] at b30
          obtain ⟨z, hz, ez⟩ := menu_str (zs := pool ++ ss) a30 (by rw [List.length_append]; omega)
          exact ⟨c8, _, _, _, rfl, rfl, SqL.of (k30 _ _ wc29 np8.symm), ez, B30.le (by omega), (Kp.of s29).trans k30, some z, rfl, (fun x hx => by cases List.mem_singleton.mp hx; exact x16 _ hz), (fun _ e => nomatch e), (fun z => absurd rfl z)⟩
        · refine iteNd (fun z => hdoor (by injection z)) ?_
          exact ⟨B28.le (by omega), Kp.refl _ _, none, rfl, (fun x hx => nomatch hx), (fun z => absurd z hdoor), (fun _ => rfl)⟩
      rintro vg H29 ⟨B29, k29, goal, rfl, hgoal, hg1, hg2⟩
      have kl29 := kl28.trans k29
      -- five
      refine ⟨fun v H' => Bag (n + 300 + 100 * i + 80) H' p ∧ Kp p H29 H' ∧ ∃ o, FiveAt H' v o, ?_, ?_⟩
      · refine ⟨_, rfl, ?_⟩
        refine take_of (z := 3) B29 (by decide) (by decide) (by omega) fun r30 H30 a30 b30 B30 k30 => ?_
        refine ⟨_, _, rfl, rfl, _, rfl, ?_⟩
        refine ite2 (fun _ => ?_) (fun _ => ?_)
        · exact ⟨_, rfl, p, _, rfl, B30, by omega, fun f m t b s v H' F nv wv B' k' => ⟨B'.le (by omega), k30.trans k', some (f, m, t, b, s), v, rfl, wv, F⟩⟩
        · exact ⟨B30.le (by omega), k30, none, rfl⟩
      rintro vf H30 ⟨B30, k30, five, hfive⟩
      have kl30 := kl29.trans k30
      have kk30 := (kk28.trans k29).trans k30
      -- found[word] = (...)
      refine ⟨_, rfl, _, rfl, _, rfl, _, rfl, _, rfl, _, rfl, _, rfl, by show 7 ≤ sizeLine; decide, fun tt ntt => ?_⟩
      generalize hE31 : upd H30 tt _ = H31
      have wt31 := new_at hE31
      have s31 := new_same hE31 ntt
      have wd31 := s31 _ _ (kk30 _ _ wd9 npd.symm)
      have fa31 := (fa9.keep kk30 B9.notTup).same s31
      have hfree : word ∉ us.map (·.1) := by
        rw [hus]
        intro hm
        obtain ⟨j, hj, e⟩ := List.getElem_of_mem hm
        rw [List.length_take] at hj
        rw [List.getElem_take] at e
        have hji : j = i := by
          have h1 : ns[i]? = some word := hword
          have h2 : ns[j]? = some word := by rw [List.getElem?_eq_getElem (by omega), e]
          exact (List.getElem?_inj (by omega) hnd).mp (h2.trans h1.symm)
        omega
      have hul : kvs.length ≤ 20 := by
        have h1 := hfa.len
        have h2 := congrArg List.length hus
        rw [List.length_map, List.length_take] at h2
        omega
      refine ⟨_, rfl, _, rfl, d, _, rfl, DPut.k (k := Sum.inr word) wd31 (small1000 (by omega)), ?_⟩
      rw [putK_new _ (hfa.free hfree)]
      generalize hE32 : upd H31 d _ = H32
      have wd32 := new_at hE32
      have m32 := mut_keep hE32
      have nt32 := NotTup.dK wd31
      refine ⟨((B30.same s31).keep m32 npd).le (by omega), (((k8.same s9).trans kk30).same s31).own m32 ndH, us ++ [(word, ⟨sort, musts, likes, foes, elders, goal, five⟩)], _, _, _, _, _, _, _, _, _, _, _, _, ?_, ?_, .snoc (fa31.keep m32 nt32) ?_, wd32, m32 _ _ (s31 _ _ (kk30 _ _ wl9 npl)) nld, m32 _ _ (s31 _ _ (kk30 _ _ wa9 npa.symm)) nad, rfl⟩
      · rw [List.map_append, hus, List.take_add_one, hword]
        rfl
      · intro q hq
        rcases List.mem_append.mp hq with hq | hq
        · exact huo q hq
        · rw [List.mem_singleton.mp hq]
          refine ⟨hsort', u1, u4, u7, u10, by show musts.length ≤ 8; omega, by show likes.length ≤ 8; omega, by show foes.length ≤ 8; omega, by show elders.length ≤ 8; omega, fun x hx => ?_, hg1, hg2⟩
          rcases List.mem_append.mp hx with hx | hx
          · rcases List.mem_append.mp hx with hx | hx
            · rcases List.mem_append.mp hx with hx | hx
              · rcases List.mem_append.mp hx with hx | hx
                · exact hmusts x hx
                · exact hlikes x hx
              · exact hfoes x hx
            · exact helders x hx
          · exact hgoal x hx
      · refine FactAt.keep (FactAt.same (H := H31) ?_ (Same.refl _)) m32 nt32
        exact ⟨tt, t1, t2, t3, t4, vf, rfl, wt31, s31 _ _ (kl30 _ _ wt1d npt1), s31 _ _ (kl30 _ _ wt2d npt2), s31 _ _ (kl30 _ _ wt3d npt3), s31 _ _ (kl30 _ _ wt4 npt4), hfive.same s31⟩
    · rintro σ H8 ⟨B8, k8, us, kvs, y6, y7, y8, y9, y10, y11, y12, y13, y14, y15, y16, hus, huo, hfa, wd8, wl8, wa8, rfl⟩
      rw [List.length_map] at B8 hus
      rw [List.take_length] at hus
      exact ⟨_, rfl, q ns ss us kvs d H8 hus hnd hnm (by omega) (by omega) ssn ssm ssl huo hfa ndH wd8 (B8.le (by omega)) k8⟩

/-! ### a unit -/
abbrev uFs (w k n x b a o r : V) : List (Str × V) := [("name", w), ("kind", k), ("needs", n), ("wants", x), ("bars", b), ("after", a), ("opens", o), ("rule", r)]
def sp_Unit_init (K : PySem.W.Frag) : Sp := fun vs H Q _ => ∃ (p dx : Addr) (v1 v2 v3 v4 v5 v6 v7 v8 : V), vs = [.ref p, v1, v2, v3, v4, v5, v6, v7, v8] ∧ H p = some (.ins (He.ga K "Unit") dx []) ∧
  ∀ H', H' p = some (.ins (He.ga K "Unit") dx (uFs v1 v2 v3 v4 v5 v6 v7 v8)) → Kp p H H' → Q .non H'
theorem ok_Unit_init (T : Txt K mg) : FnOk P w K mg base CX0 1 (He.fAd K ("Unit", some "__init__")) T.d_Unit_init ["self", "name", "kind", "needs", "wants", "bars", "after", "opens", "rule"] (sp_Unit_init K) := by
  refine T.F_Unit_init.ok sc_Unit_init (fun vs H Q E h => ?_) (fun cdv A outer s H vs Q E hr h => ?_)
  · obtain ⟨p, dx, v1, v2, v3, v4, v5, v6, v7, v8, rfl, _⟩ := h
    rfl
  · obtain ⟨p, dx, v1, v2, v3, v4, v5, v6, v7, v8, rfl, hp, q⟩ := h
    refine ⟨_, PSs.nox (pss_cons (ps_fld (pv 0) (pv 1) rfl)
      (pss_cons (ps_fld (pv 0) (pv 2) rfl)
      (pss_cons (ps_fld (pv 0) (pv 3) rfl)
      (pss_cons (ps_fld (pv 0) (pv 4) rfl)
      (pss_cons (ps_fld (pv 0) (pv 5) rfl)
      (pss_cons (ps_fld (pv 0) (pv 6) rfl)
      (pss_cons (ps_fld (pv 0) (pv 7) rfl)
      (pss_one (ps_fld (pv 0) (pv 8) rfl))))))))), ?_⟩
    refine ⟨_, rfl, _, rfl, p, _, dx, [], rfl, hp, T.cl_Unit, T.na_Unit_name, (by show 0 < 1000; decide), ?_⟩
    refine ⟨_, rfl, _, rfl, p, _, dx, _, rfl, upd_same, T.cl_Unit, T.na_Unit_kind, (by show 1 < 1000; decide), ?_⟩
    refine ⟨_, rfl, _, rfl, p, _, dx, _, rfl, upd_same, T.cl_Unit, T.na_Unit_needs, (by show 2 < 1000; decide), ?_⟩
    refine ⟨_, rfl, _, rfl, p, _, dx, _, rfl, upd_same, T.cl_Unit, T.na_Unit_wants, (by show 3 < 1000; decide), ?_⟩
    refine ⟨_, rfl, _, rfl, p, _, dx, _, rfl, upd_same, T.cl_Unit, T.na_Unit_bars, (by show 4 < 1000; decide), ?_⟩
    refine ⟨_, rfl, _, rfl, p, _, dx, _, rfl, upd_same, T.cl_Unit, T.na_Unit_after, (by show 5 < 1000; decide), ?_⟩
    refine ⟨_, rfl, _, rfl, p, _, dx, _, rfl, upd_same, T.cl_Unit, T.na_Unit_opens, (by show 6 < 1000; decide), ?_⟩
    refine ⟨_, rfl, _, rfl, p, _, dx, _, rfl, upd_same, T.cl_Unit, T.na_Unit_rule, (by show 7 < 1000; decide), ?_⟩
    refine q _ upd_same fun c o h n => ?_
    rw [upd_ne n, upd_ne n, upd_ne n, upd_ne n, upd_ne n, upd_ne n, upd_ne n, upd_ne n]
    exact h
/-- the rule of a unit, or None -/
def RuleOpt (K : PySem.W.Frag) (H : Hp) : V → Option (Int × Int × Int × Int × Int) → Prop
  | v, none => v = .non
  | v, some (f, m, t, b, s) => ∃ r, v = .ref r ∧ RuleAt K H r f m t b s
theorem RuleOpt.same {H H' : Hp} {v : V} {o : Option (Int × Int × Int × Int × Int)} (h : RuleOpt K H v o) (s : Same H H') : RuleOpt K H' v o := by
  cases o with
  | none => exact h
  | some o =>
    obtain ⟨f, m, t, b, s'⟩ := o
    obtain ⟨p, e, hp⟩ := h
    exact ⟨p, e, hp.same s⟩
theorem RuleOpt.keep {H H' : Hp} {v : V} {o : Option (Int × Int × Int × Int × Int)} {q : Addr} (h : RuleOpt K H v o) (k : Kp q H H') (n : ∀ C dx fs, H q ≠ some (.ins C dx fs)) : RuleOpt K H' v o := by
  cases o with
  | none => exact h
  | some o =>
    obtain ⟨f, m, t, b, s'⟩ := o
    obtain ⟨p, e, dx, hp⟩ := h
    exact ⟨p, e, dx, k _ _ hp fun z => n _ _ _ (z ▸ hp)⟩
/-- a unit stands at a -/
def UnitAt (K : PySem.W.Frag) (H : Hp) (p : Addr) (w : Str) (u : UF) : Prop := ∃ (dx n x b a : Addr) (r : V), H p = some (.ins (He.ga K "Unit") dx (uFs (.str w) (.str u.kind) (.ref n) (.ref x) (.ref b) (.ref a) (optV u.opens) r)) ∧
  SqT K H n (u.needs.map V.str) ∧ SqT K H x (u.wants.map V.str) ∧ SqT K H b (u.bars.map V.str) ∧ SqT K H a (u.after.map V.str) ∧ RuleOpt K H r u.five
/-- the seven facts, whatever way their tuples stand -/
def FactS (K : PySem.W.Frag) (H : Hp) (v : V) (u : UF) : Prop := ∃ (t n x b a : Addr) (g : V), v = .ref t ∧ SqT K H t [.str u.kind, .ref n, .ref x, .ref b, .ref a, optV u.opens, g] ∧
  SqT K H n (u.needs.map V.str) ∧ SqT K H x (u.wants.map V.str) ∧ SqT K H b (u.bars.map V.str) ∧ SqT K H a (u.after.map V.str) ∧ FiveAt H g u.five
theorem FactAt.s {H : Hp} {v : V} {u : UF} (h : FactAt H v u) : FactS K H v u := by
  obtain ⟨t, n, x, b, a, g, e, h0, h1, h2, h3, h4, h5⟩ := h
  exact ⟨t, n, x, b, a, g, e, .of h0, .of h1, .of h2, .of h3, .of h4, h5⟩
def sp_law_unit (K : PySem.W.Frag) : Sp := fun vs H Q _ => ∃ (w : Str) (d : Addr) (v : V) (u : UF), vs = [.str w, .ref d] ∧ DGet H d (.str w) (some v) ∧ FactS K H v u ∧
  ∀ p H', H p = none → Same H H' → UnitAt K H' p w u → Q (.ref p) H'
theorem ok_law_unit (T : Txt K mg) : FnOk P w K mg base CX0 4 (He.fAd K ("_law_unit", none)) T.d_law_unit ["_law_word", "_law_facts_here"] (sp_law_unit K) := by
  refine T.F_law_unit.ok sc_law_unit (fun vs H Q E h => ?_) (fun cdv A outer s H vs Q E hr h => ?_)
  · obtain ⟨w, d, v, u, rfl, _⟩ := h
    rfl
  · obtain ⟨w, d, v, u, rfl, hd, hF, q⟩ := h
    refine ⟨_, PSs.nox (pss_cons (ps_asg (pe_dget (hu_of hr) (pv 1) (pv 0) (fun _ _ => rfl)) (pg_tup rfl (pgs_cons (pg_name (i := 2) sc_law_unit.nd rfl (Or.inl rfl)) (pgs_cons (pg_name (i := 3) sc_law_unit.nd rfl (Or.inl rfl)) (pgs_cons (pg_name (i := 4) sc_law_unit.nd rfl (Or.inl rfl)) (pgs_cons (pg_name (i := 5) sc_law_unit.nd rfl (Or.inl rfl)) (pgs_cons (pg_name (i := 6) sc_law_unit.nd rfl (Or.inl rfl)) (pgs_cons (pg_name (i := 7) sc_law_unit.nd rfl (Or.inl rfl)) (pgs_cons (pg_name (i := 8) sc_law_unit.nd rfl (Or.inl rfl)) pgs_nil)))))))))
      (pss_cons (ps_set (i := 9) sc_law_unit.nd rfl (Or.inl rfl) (pe_mid (pe_ifExp (pt_cmpR op_isN (pv 8) pe_non (nomark _)) pe_non (pe_call (ok_law_rule T) (hr.mono (by decide)) (by rfl) T.m_law_rule T.F_law_rule.kp T.b_law_rule .nil pass0 (pa_cons (pv 8) pa_nil)))))
      (pss_one (ps_ret (pe_makeK T.mk_Unit (ok_Unit_init T) (hr.mono (by decide)) (by rfl) T.m_Unit T.kb_Unit_init_2_kind_needs_wants_bars_after_opens_rule.choose_spec pass0 (pa_cons (pv 0) pa_nil) (pk_cons (pv 2) (pk_cons (pv 3) (pk_cons (pv 4) (pk_cons (pv 5) (pk_cons (pv 6) (pk_cons (pv 7) (pk_cons (pv 9) pk_nil)))))))))))), ?_⟩
    obtain ⟨t, n, x, b, a, g, rfl, wt, wn, wx, wb, wa, hg⟩ := hF
    refine ⟨_, rfl, _, rfl, d, _, rfl, hd, t, _, rfl, wt, rfl, _, _, rfl, _, _, rfl, _, _, rfl, _, _, rfl, _, _, rfl, _, _, rfl, _, _, rfl, rfl, ?_⟩
    refine ⟨fun v H' => Same H H' ∧ RuleOpt K H' v u.five, ?_, ?_⟩
    · refine ⟨_, rfl, rfl, _, rfl, ?_⟩
      cases h5 : u.five with
      | none =>
        rw [h5] at hg
        cases (show g = .non from hg)
        exact iteYd rfl ⟨Same.refl _, rfl⟩
      | some o =>
        obtain ⟨f, m, tp, br, sn⟩ := o
        rw [h5] at hg
        obtain ⟨v5, rfl, w5, F⟩ := hg
        refine iteNd (fun z => nomatch z) ⟨_, rfl, v5, f, m, tp, br, sn, rfl, SqT.of w5, fun r H' nr s' hr => ⟨s', r, rfl, hr⟩⟩
    rintro rv H1 ⟨s1, hr⟩
    refine ⟨_, rfl, _, rfl, _, rfl, _, rfl, _, rfl, _, rfl, _, rfl, _, rfl, rfl, rfl, fun p dx np nd ne => ?_⟩
    refine ⟨p, dx, _, _, _, _, _, _, _, _, rfl, upd_same, fun H' wp kp => ⟨rfl, ?_⟩⟩
    have s2 : Same H1 H' := Same.made np nd fun b o e n => kp b o e n
    have s3 := s1.trans s2
    exact q p H' (s1.free np) s3 ⟨dx, n, x, b, a, rv, wp, tup_same s3 wn, tup_same s3 wx, tup_same s3 wb, tup_same s3 wa, RuleOpt.same hr s2⟩
theorem UnitAt.same {H H' : Hp} {p : Addr} {w : Str} {u : UF} (h : UnitAt K H p w u) (s : Same H H') : UnitAt K H' p w u := by
  obtain ⟨dx, n, x, b, a, r, h0, h1, h2, h3, h4, h5⟩ := h
  exact ⟨dx, n, x, b, a, r, s _ _ h0, tup_same s h1, tup_same s h2, tup_same s h3, tup_same s h4, h5.same s⟩
theorem UnitAt.keep {H H' : Hp} {p q : Addr} {w : Str} {u : UF} {n : Nat} (h : UnitAt K H p w u) (k : Kp q H H') (B : Bag n H q) : UnitAt K H' p w u := by
  obtain ⟨_, _, _, hq, _⟩ := B.ex
  have nt := NotTp.lst hq
  obtain ⟨dx, n, x, b, a, r, h0, h1, h2, h3, h4, h5⟩ := h
  exact ⟨dx, n, x, b, a, r, k _ _ h0 (fun e => by rw [e, hq] at h0; cases h0), k.tup nt h1, k.tup nt h2, k.tup nt h3, k.tup nt h4, h5.keep k fun C dx fs e => by rw [hq] at e; cases e⟩

/-! ### rules are equal just where all five are -/

/-- what == of a rule and a thing comes to -/
def sp_Rule_eq (K : PySem.W.Frag) : Sp := fun vs H Q _ => ∃ (a : Addr) (f m t b s : Int) (y : V), vs = [.ref a, y] ∧ RuleAt K H a f m t b s ∧
  ((∃ (c : Addr) (f' m' t' b' s' : Int), y = .ref c ∧ RuleAt K H c f' m' t' b' s' ∧ Q (.bl (decide (f = f' ∧ m = m' ∧ t = t' ∧ b = b' ∧ s = s'))) H) ∨ (∃ T, UO.plainTy H K y T ∧ Q (.bl false) H) ∨ ∃ t, TyX K H y t ∧ PySem.W.kitOne K t (.ref (He.ga K "Rule")) = some false ∧ Q (.bl false) H)
theorem dec_int {i j : Int} : decide (V.int i = V.int j) = decide (i = j) := decide_eq_decide.mpr ⟨fun e => by cases e; rfl, fun e => by rw [e]⟩
theorem ok_Rule_eq (T : Txt K mg) : FnOk P w K mg base CX0 1 (He.fAd K ("Rule", some "__eq__")) T.d_Rule_eq ["self", "other"] (sp_Rule_eq K) := by
  refine T.F_Rule_eq.ok sc_Rule_eq (fun vs H Q E h => ?_) (fun cdv A outer s H vs Q E hr h => ?_)
  · obtain ⟨a, f, m, t, b, s, y, rfl, _⟩ := h
    rfl
  · obtain ⟨a, f, m, t, b, s, y, rfl, ⟨dx, ha⟩, h⟩ := h
    refine ⟨_, PSs.nox (pss_one (ps_ret (pe_mid (pe_and (pe_callB (id := "isinstance")  call_isi (by rfl) T.n_isinstance (by decide +kernel) (pa_cons (pv 1) (pa_cons (pe_glob (v := .ref (He.ga K "Rule")) (by rfl) T.m_Rule rfl) pa_nil))) (pe_and (pe_cmpR op_eq (pe_fld (pv 0) rfl) (pe_fld (pv 1) rfl) (nomark _)) (pe_and (pe_cmpR op_eq (pe_fld (pv 0) rfl) (pe_fld (pv 1) rfl) (nomark _)) (pe_and (pe_cmpR op_eq (pe_fld (pv 0) rfl) (pe_fld (pv 1) rfl) (nomark _)) (pe_and (pe_cmpR op_eq (pe_fld (pv 0) rfl) (pe_fld (pv 1) rfl) (nomark _)) (pe_one (pe_cmpR op_eq (pe_fld (pv 0) rfl) (pe_fld (pv 1) rfl) (nomark _))))))))))), ?_⟩
    rcases h with ⟨c, f', m', t', b', s', rfl, ⟨dc, hc⟩, q⟩ | ⟨Ty, pt, q⟩ | ⟨ty, tx, hk, q⟩
    · refine ⟨fun v H' => H' = H ∧ v = .bl (decide (f = f' ∧ m = m' ∧ t = t' ∧ b = b' ∧ s = s')), ?_, ?_⟩
      · refine ⟨_, rfl, _, _, _, _, true, rfl, .own _, T.ix_Rule.ty T.cl_Rule hc, UO.kit_self _ _, _, rfl, ?_⟩
        refine iteT ?_
        refine ⟨_, rfl, a, _, dx, _, _, rfl, ha, T.cl_Rule, T.na_Rule_first, rfl, _, rfl, c, _, dc, _, _, rfl, hc, T.cl_Rule, T.na_Rule_first, rfl, rfl, _, rfl, ?_⟩
        rw [dec_int]
        refine ite2 (fun h1 => ?_) (fun h1 => ?_)
        · have h1 := of_decide_eq_true h1
          refine ⟨_, rfl, a, _, dx, _, _, rfl, ha, T.cl_Rule, T.na_Rule_times, rfl, _, rfl, c, _, dc, _, _, rfl, hc, T.cl_Rule, T.na_Rule_times, rfl, rfl, _, rfl, ?_⟩
          rw [dec_int]
          refine ite2 (fun h2 => ?_) (fun h2 => ?_)
          · have h2 := of_decide_eq_true h2
            refine ⟨_, rfl, a, _, dx, _, _, rfl, ha, T.cl_Rule, T.na_Rule_top, rfl, _, rfl, c, _, dc, _, _, rfl, hc, T.cl_Rule, T.na_Rule_top, rfl, rfl, _, rfl, ?_⟩
            rw [dec_int]
            refine ite2 (fun h3 => ?_) (fun h3 => ?_)
            · have h3 := of_decide_eq_true h3
              refine ⟨_, rfl, a, _, dx, _, _, rfl, ha, T.cl_Rule, T.na_Rule_burst, rfl, _, rfl, c, _, dc, _, _, rfl, hc, T.cl_Rule, T.na_Rule_burst, rfl, rfl, _, rfl, ?_⟩
              rw [dec_int]
              refine ite2 (fun h4 => ?_) (fun h4 => ?_)
              · have h4 := of_decide_eq_true h4
                refine ⟨_, rfl, a, _, dx, _, _, rfl, ha, T.cl_Rule, T.na_Rule_span, rfl, _, rfl, c, _, dc, _, _, rfl, hc, T.cl_Rule, T.na_Rule_span, rfl, rfl, rfl, ?_⟩
                rw [dec_int]
                exact congrArg V.bl (decide_eq_decide.mpr ⟨fun z => ⟨h1, h2, h3, h4, z⟩, fun z => z.2.2.2.2⟩)
              · exact ⟨rfl, congrArg V.bl (decide_eq_false fun z => h4 (decide_eq_true z.2.2.2.1)).symm⟩
            · exact ⟨rfl, congrArg V.bl (decide_eq_false fun z => h3 (decide_eq_true z.2.2.1)).symm⟩
          · exact ⟨rfl, congrArg V.bl (decide_eq_false fun z => h2 (decide_eq_true z.2.1)).symm⟩
        · exact ⟨rfl, congrArg V.bl (decide_eq_false fun z => h1 (decide_eq_true z.1)).symm⟩
      · rintro v H' ⟨rfl, rfl⟩
        exact q
    · obtain ⟨ty, hT⟩ := UO.plain_ty pt
      refine ⟨fun v H' => H' = H ∧ v = .bl false, ?_, ?_⟩
      · refine ⟨_, rfl, _, _, _, _, false, rfl, .own _, ty, T.ix_Rule.kit _ hT, _, rfl, ?_⟩
        exact iteF ⟨rfl, rfl⟩
      · rintro v H' ⟨rfl, rfl⟩
        exact q
    · refine ⟨fun v H' => H' = H ∧ v = .bl false, ?_, ?_⟩
      · refine ⟨_, rfl, _, _, _, _, false, rfl, .own _, tx, hk, _, rfl, ?_⟩
        exact iteF ⟨rfl, rfl⟩
      · rintro v H' ⟨rfl, rfl⟩
        exact q

/-! ### units are equal just where all eight are -/
/-- all names of a unit are texts that can be laid -/
def UStr (u : UF) : Prop := ∀ x ∈ u.needs ++ u.wants ++ u.bars ++ u.after, PyData.strOk x = true
/-- what == of a unit and a thing comes to -/
def sp_Unit_eq (K : PySem.W.Frag) : Sp := fun vs H Q _ => ∃ (p : Addr) (w : Str) (u : UF) (y : V), vs = [.ref p, y] ∧ UnitAt K H p w u ∧ UStr u ∧
  ((∃ (c : Addr) (w' : Str) (u' : UF), y = .ref c ∧ UnitAt K H c w' u' ∧ UStr u' ∧ Q (.bl (decide (w = w' ∧ u = u'))) H) ∨ (∃ T, UO.plainTy H K y T ∧ Q (.bl false) H) ∨ (∃ (r : Addr) (f m t b s : Int), y = .ref r ∧ RuleAt K H r f m t b s ∧ Q (.bl false) H))
theorem ok_Unit_eq (T : Txt K mg) : FnOk P w K mg base CX0 5 (He.fAd K ("Unit", some "__eq__")) T.d_Unit_eq ["self", "other"] (sp_Unit_eq K) := by
  refine T.F_Unit_eq.ok sc_Unit_eq (fun vs H Q E h => ?_) (fun cdv A outer s H vs Q E hr h => ?_)
  · obtain ⟨p, w, u, y, rfl, _⟩ := h
    rfl
  · obtain ⟨p, w, u, y, rfl, hp, hU, h⟩ := h
    refine ⟨_, PSs.nox (pss_one (ps_ret (pe_mid (pe_and (pe_callB (id := "isinstance")  call_isi (by rfl) T.n_isinstance (by decide +kernel) (pa_cons (pv 1) (pa_cons (pe_glob (v := .ref (He.ga K "Unit")) (by rfl) T.m_Unit rfl) pa_nil))) (pe_and (pe_cmpR op_eq (pe_fld (pv 0) rfl) (pe_fld (pv 1) rfl) (nomark _)) (pe_and (pe_cmpR op_eq (pe_fld (pv 0) rfl) (pe_fld (pv 1) rfl) (nomark _)) (pe_and (pe_cmpR (op_eqD hr.units) (pe_fld (pv 0) rfl) (pe_fld (pv 1) rfl) (nomark _)) (pe_and (pe_cmpR (op_eqD hr.units) (pe_fld (pv 0) rfl) (pe_fld (pv 1) rfl) (nomark _)) (pe_and (pe_cmpR (op_eqD hr.units) (pe_fld (pv 0) rfl) (pe_fld (pv 1) rfl) (nomark _)) (pe_and (pe_cmpR (op_eqD hr.units) (pe_fld (pv 0) rfl) (pe_fld (pv 1) rfl) (nomark _)) (pe_and (pe_cmpR op_eq (pe_fld (pv 0) rfl) (pe_fld (pv 1) rfl) (nomark _)) (pe_one (pe_cmpR (UO.op_or op_eq (UO.op_or (UO.op_rc (UO.rc_left (ok_Rule_eq T) T.me_Rule_eq.at_ T.me_Rule_eq.fn T.b_Rule_eq pass0) (hr.mono (by decide))) (UO.op_rc (UO.rc_right (ok_Rule_eq T) T.me_Rule_eq.at_ T.me_Rule_eq.fn T.b_Rule_eq pass0) (hr.mono (by decide))))) (pe_fld (pv 0) rfl) (pe_fld (pv 1) rfl) (nomark _)))))))))))))), ?_⟩
    obtain ⟨dx, an, ax, ab, aa, r, hp0, hn, hx, hb, ha, hr5⟩ := hp
    rcases h with ⟨c, w', u', rfl, hc, hU', q⟩ | ⟨Ty, pt, q⟩ | ⟨r', f, m, t, b, s, rfl, ⟨dr, hr'⟩, q⟩
    · obtain ⟨dc, cn, cx, cb, ca, r', hc0, gn, gx, gb, ga, gr5⟩ := hc
      have okn : ∀ x ∈ u.needs, PyData.strOk x = true := fun x h => hU x (List.mem_append_left _ (List.mem_append_left _ (List.mem_append_left _ h)))
      have okx : ∀ x ∈ u.wants, PyData.strOk x = true := fun x h => hU x (List.mem_append_left _ (List.mem_append_left _ (List.mem_append_right _ h)))
      have okb : ∀ x ∈ u.bars, PyData.strOk x = true := fun x h => hU x (List.mem_append_left _ (List.mem_append_right _ h))
      have oka : ∀ x ∈ u.after, PyData.strOk x = true := fun x h => hU x (List.mem_append_right _ h)
      have okn' : ∀ x ∈ u'.needs, PyData.strOk x = true := fun x h => hU' x (List.mem_append_left _ (List.mem_append_left _ (List.mem_append_left _ h)))
      have okx' : ∀ x ∈ u'.wants, PyData.strOk x = true := fun x h => hU' x (List.mem_append_left _ (List.mem_append_left _ (List.mem_append_right _ h)))
      have okb' : ∀ x ∈ u'.bars, PyData.strOk x = true := fun x h => hU' x (List.mem_append_left _ (List.mem_append_right _ h))
      have oka' : ∀ x ∈ u'.after, PyData.strOk x = true := fun x h => hU' x (List.mem_append_right _ h)
      refine ⟨fun v H' => H' = H ∧ v = .bl (decide (w = w' ∧ u = u')), ?_, ?_⟩
      · refine ⟨_, rfl, _, _, _, _, true, rfl, .own _, T.ix_Unit.ty T.cl_Unit hc0, UO.kit_self _ _, _, rfl, ?_⟩
        refine iteT ?_
        refine ⟨_, rfl, p, _, dx, _, _, rfl, hp0, T.cl_Unit, T.na_Unit_name, rfl, _, rfl, c, _, dc, _, _, rfl, hc0, T.cl_Unit, T.na_Unit_name, rfl, rfl, _, rfl, ?_⟩
        rw [UW.dec_str]
        refine ite2 (fun h1 => ?_) (fun h1 => ⟨rfl, congrArg V.bl (decide_eq_false fun z => h1 (decide_eq_true z.1)).symm⟩)
        refine ⟨_, rfl, p, _, dx, _, _, rfl, hp0, T.cl_Unit, T.na_Unit_kind, rfl, _, rfl, c, _, dc, _, _, rfl, hc0, T.cl_Unit, T.na_Unit_kind, rfl, rfl, _, rfl, ?_⟩
        rw [UW.dec_str]
        refine ite2 (fun h2 => ?_) (fun h2 => ⟨rfl, congrArg V.bl (decide_eq_false fun z => h2 (decide_eq_true (congrArg UF.kind z.2))).symm⟩)
        refine ⟨_, rfl, p, _, dx, _, _, rfl, hp0, T.cl_Unit, T.na_Unit_needs, rfl, _, rfl, c, _, dc, _, _, rfl, hc0, T.cl_Unit, T.na_Unit_needs, rfl, eqD_strsT hn gn okn okn' ⟨_, rfl, ?_⟩⟩
        refine ite2 (fun h3 => ?_) (fun h3 => ⟨rfl, congrArg V.bl (decide_eq_false fun z => h3 (decide_eq_true (congrArg UF.needs z.2))).symm⟩)
        refine ⟨_, rfl, p, _, dx, _, _, rfl, hp0, T.cl_Unit, T.na_Unit_wants, rfl, _, rfl, c, _, dc, _, _, rfl, hc0, T.cl_Unit, T.na_Unit_wants, rfl, eqD_strsT hx gx okx okx' ⟨_, rfl, ?_⟩⟩
        refine ite2 (fun h4 => ?_) (fun h4 => ⟨rfl, congrArg V.bl (decide_eq_false fun z => h4 (decide_eq_true (congrArg UF.wants z.2))).symm⟩)
        refine ⟨_, rfl, p, _, dx, _, _, rfl, hp0, T.cl_Unit, T.na_Unit_bars, rfl, _, rfl, c, _, dc, _, _, rfl, hc0, T.cl_Unit, T.na_Unit_bars, rfl, eqD_strsT hb gb okb okb' ⟨_, rfl, ?_⟩⟩
        refine ite2 (fun h5 => ?_) (fun h5 => ⟨rfl, congrArg V.bl (decide_eq_false fun z => h5 (decide_eq_true (congrArg UF.bars z.2))).symm⟩)
        refine ⟨_, rfl, p, _, dx, _, _, rfl, hp0, T.cl_Unit, T.na_Unit_after, rfl, _, rfl, c, _, dc, _, _, rfl, hc0, T.cl_Unit, T.na_Unit_after, rfl, eqD_strsT ha ga oka oka' ⟨_, rfl, ?_⟩⟩
        refine ite2 (fun h6 => ?_) (fun h6 => ⟨rfl, congrArg V.bl (decide_eq_false fun z => h6 (decide_eq_true (congrArg UF.after z.2))).symm⟩)
        refine ⟨_, rfl, p, _, dx, _, _, rfl, hp0, T.cl_Unit, T.na_Unit_opens, rfl, _, rfl, c, _, dc, _, _, rfl, hc0, T.cl_Unit, T.na_Unit_opens, rfl, scal_optV _ _, _, rfl, ?_⟩
        rw [dec_optV]
        refine ite2 (fun h7 => ?_) (fun h7 => ⟨rfl, congrArg V.bl (decide_eq_false fun z => h7 (decide_eq_true (congrArg UF.opens z.2))).symm⟩)
        have hall : (w = w' ∧ u = u') ↔ u.five = u'.five := by
          refine ⟨fun z => congrArg UF.five z.2, fun z => ⟨of_decide_eq_true h1, ?_⟩⟩
          have h2 := of_decide_eq_true h2
          have h3 := of_decide_eq_true h3
          have h4 := of_decide_eq_true h4
          have h5 := of_decide_eq_true h5
          have h6 := of_decide_eq_true h6
          have h7 := of_decide_eq_true h7
          cases u
          cases u'
          cases h2
          cases h3
          cases h4
          cases h5
          cases h6
          cases h7
          cases z
          rfl
        rw [decide_eq_decide.mpr hall]
        refine ⟨_, rfl, p, _, dx, _, _, rfl, hp0, T.cl_Unit, T.na_Unit_rule, rfl, _, rfl, c, _, dc, _, _, rfl, hc0, T.cl_Unit, T.na_Unit_rule, rfl, ?_⟩
        obtain ⟨o1, ho1⟩ : ∃ o, u.five = o := ⟨_, rfl⟩
        obtain ⟨o2, ho2⟩ : ∃ o, u'.five = o := ⟨_, rfl⟩
        rcases o1 with _ | ⟨f, m, t, b, s⟩
        · rw [ho1] at hr5
          cases (show r = .non from hr5)
          rcases o2 with _ | ⟨f, m, t, b, s⟩
          · rw [ho2] at gr5
            cases (show r' = .non from gr5)
            exact .inl ⟨rfl, rfl, congrArg V.bl (decide_eq_true (ho1.trans ho2.symm)).symm⟩
          · rw [ho2] at gr5
            obtain ⟨a2, rfl, hr2⟩ := gr5
            obtain ⟨d2, hr2'⟩ := hr2
            have hne : ¬ u.five = u'.five := fun e => by rw [ho1, ho2] at e; cases e
            exact .inr (.inr ⟨a2, d2, _, "NoneType", rfl, hr2', rfl, T.ix_Rule.sub _ (by decide), a2, f, m, t, b, s, _, rfl, ⟨d2, hr2'⟩, .inr (.inl ⟨"NoneType", rfl, false, rfl, rfl, congrArg V.bl (decide_eq_false hne).symm⟩)⟩)
        · rw [ho1] at hr5
          obtain ⟨a1, rfl, hr1⟩ := hr5
          obtain ⟨d1, hr1'⟩ := hr1
          rcases o2 with _ | ⟨f', m', t', b', s'⟩
          · rw [ho2] at gr5
            cases (show r' = .non from gr5)
            have hne : ¬ u.five = u'.five := fun e => by rw [ho1, ho2] at e; cases e
            exact .inr (.inl ⟨a1, d1, _, _, rfl, hr1', .base .non, T.ix_Rule.first (by decide), a1, f, m, t, b, s, _, rfl, ⟨d1, hr1'⟩, .inr (.inl ⟨"NoneType", rfl, false, rfl, rfl, congrArg V.bl (decide_eq_false hne).symm⟩)⟩)
          · rw [ho2] at gr5
            obtain ⟨a2, rfl, hr2⟩ := gr5
            obtain ⟨d2, hr2'⟩ := hr2
            refine .inr (.inl ⟨a1, d1, _, _, rfl, hr1', T.ix_Rule.ty T.cl_Rule hr2', UO.first_self _ _, a1, f, m, t, b, s, _, rfl, ⟨d1, hr1'⟩, .inl ⟨a2, f', m', t', b', s', rfl, ⟨d2, hr2'⟩, _, rfl, rfl, congrArg V.bl (decide_eq_decide.mpr ⟨?_, ?_⟩)⟩⟩)
            · rintro ⟨rfl, rfl, rfl, rfl, rfl⟩
              exact ho1.trans ho2.symm
            · intro e
              rw [ho1, ho2] at e
              cases e
              exact ⟨rfl, rfl, rfl, rfl, rfl⟩
      · rintro v H' ⟨rfl, rfl⟩
        exact q
    · obtain ⟨ty, hT⟩ := UO.plain_ty pt
      refine ⟨fun v H' => H' = H ∧ v = .bl false, ?_, ?_⟩
      · refine ⟨_, rfl, _, _, _, _, false, rfl, .own _, ty, T.ix_Unit.kit _ hT, _, rfl, ?_⟩
        exact iteF ⟨rfl, rfl⟩
      · rintro v H' ⟨rfl, rfl⟩
        exact q
    · refine ⟨fun v H' => H' = H ∧ v = .bl false, ?_, ?_⟩
      · refine ⟨_, rfl, _, _, _, _, false, rfl, .own _, T.ix_Rule.ty T.cl_Rule hr', T.px_Rule_Unit.kit, _, rfl, ?_⟩
        exact iteF ⟨rfl, rfl⟩
      · rintro v H' ⟨rfl, rfl⟩
        exact q

/-! ### fields right, made anew -/
def sp_law_fields_right (K : PySem.W.Frag) : Sp := fun vs H Q _ => ∃ (p : Addr) (w : Str) (v : V) (u : UF), vs = [.ref p, .str w, v] ∧ UnitAt K H p w u ∧ FactAt H v u ∧ UStr u ∧ ∀ H', Same H H' → Q (.bl true) H'
theorem ok_law_fields_right (T : Txt K mg) : FnOk P w K mg base CX0 7 (He.fAd K ("_law_fields_right", none)) T.d_law_fields_right ["_law_one", "_law_word", "_law_parts"] (sp_law_fields_right K) := by
  refine T.F_law_fields_right.ok sc_law_fields_right (fun vs H Q E h => ?_) (fun cdv A outer s H vs Q E hr h => ?_)
  · obtain ⟨p, w, v, u, rfl, _⟩ := h
    rfl
  · obtain ⟨p, w, v, u, rfl, hp, hF, hU, q⟩ := h
    refine ⟨_, PSs.nox (pss_cons (ps_asg (pv 2) (pg_tup rfl (pgs_cons (pg_name (i := 3) sc_law_fields_right.nd rfl (Or.inl rfl)) (pgs_cons (pg_name (i := 4) sc_law_fields_right.nd rfl (Or.inl rfl)) (pgs_cons (pg_name (i := 5) sc_law_fields_right.nd rfl (Or.inl rfl)) (pgs_cons (pg_name (i := 6) sc_law_fields_right.nd rfl (Or.inl rfl)) (pgs_cons (pg_name (i := 7) sc_law_fields_right.nd rfl (Or.inl rfl)) (pgs_cons (pg_name (i := 8) sc_law_fields_right.nd rfl (Or.inl rfl)) (pgs_cons (pg_name (i := 9) sc_law_fields_right.nd rfl (Or.inl rfl)) pgs_nil)))))))))
      (pss_cons (ps_if (PW.pt (pw_or (pt_cmpR op_ne (pe_fld (pv 0) rfl) (pv 1) (nomark _)) (pw_or (pt_cmpR op_ne (pe_fld (pv 0) rfl) (pv 3) (nomark _)) (pw_or1 (pt_cmpR op_ne (pe_fld (pv 0) rfl) (pv 8) (nomark _))))))
      (pss_one (ps_ret pe_bl))
      pss_nil)
      (pss_cons (ps_if (pt_cmpR (op_neD hr.units) (pe_lst (pa_cons (pe_fld (pv 0) rfl) (pa_cons (pe_fld (pv 0) rfl) (pa_cons (pe_fld (pv 0) rfl) (pa_cons (pe_fld (pv 0) rfl) pa_nil))))) (pe_lst (pa_cons (pv 4) (pa_cons (pv 5) (pa_cons (pv 6) (pa_cons (pv 7) pa_nil))))) (nomark _))
      (pss_one (ps_ret pe_bl))
      pss_nil)
      (pss_cons (ps_if (pt_not (pt_val (pe_callB (id := "all")  (cr_all rfl) (by rfl) T.n_all (by decide +kernel) (pa_cons (pe_lc (own := [("_law_some_here", 10)]) (by rfl) sc_law_fields_right.nd (pi_tup (pe_tup (pa_cons (pe_fld (pv 0) rfl) (pa_cons (pe_fld (pv 0) rfl) (pa_cons (pe_fld (pv 0) rfl) (pa_cons (pe_fld (pv 0) rfl) pa_nil)))))) (blkOk_by (own := [("_law_some_here", 10)]) (N := N_law_fields_right) (sc := defScope s_law_fields_right) (by decide +kernel)) (fun _ _ _ _ _ => (pg_name (i := 10) sc_law_fields_right.nd rfl (Or.inl rfl))) (fun _ _ _ _ _ => pts_nil) (fun _ _ _ _ _ => (pe_callB (id := "isinstance")  (r := rIsi K) call_isi (by rfl) T.n_isinstance (by decide +kernel) (pa_cons (pv 10) (pa_cons (pe_bltn (v := .ty "tuple") (u := .type "tuple") (by rfl) T.n_tuple (by decide +kernel) rfl) pa_nil))))) pa_nil))))
      (pss_one (ps_ret pe_bl))
      pss_nil)
      (pss_cons (ps_if (pt_cmpR op_isN (pv 9) pe_non (nomark _))
      (pss_one (ps_ret (pe_cmpR op_isN (pe_fld (pv 0) rfl) pe_non (nomark _))))
      pss_nil)
      (pss_one (ps_ret (pe_cmpR (UO.op_rc (UO.rc_left (ok_Rule_eq T) T.me_Rule_eq.at_ T.me_Rule_eq.fn T.b_Rule_eq pass0) (hr.mono (by decide))) (pe_fld (pv 0) rfl) (pe_call (ok_law_rule T) (hr.mono (by decide)) (by rfl) T.m_law_rule T.F_law_rule.kp T.b_law_rule .nil pass0 (pa_cons (pv 9) pa_nil)) (nomark _))))))))), ?_⟩
    obtain ⟨dx, an, ax, ab, aa, r, hp0, hn, hx, hb, ha, hr5⟩ := hp
    obtain ⟨t, n, x, b, a, g, rfl, wt, wn, wx, wb, wa, hg⟩ := hF
    have okn : ∀ x ∈ u.needs, PyData.strOk x = true := fun x h => hU x (List.mem_append_left _ (List.mem_append_left _ (List.mem_append_left _ h)))
    have okx : ∀ x ∈ u.wants, PyData.strOk x = true := fun x h => hU x (List.mem_append_left _ (List.mem_append_left _ (List.mem_append_right _ h)))
    have okb : ∀ x ∈ u.bars, PyData.strOk x = true := fun x h => hU x (List.mem_append_left _ (List.mem_append_right _ h))
    have oka : ∀ x ∈ u.after, PyData.strOk x = true := fun x h => hU x (List.mem_append_right _ h)
    refine ⟨_, rfl, t, _, rfl, SqT.of wt, rfl, _, _, rfl, _, _, rfl, _, _, rfl, _, _, rfl, _, _, rfl, _, _, rfl, _, _, rfl, rfl, ?_⟩
    -- if one.name != word or ..
    refine ⟨_, rfl, p, _, dx, _, _, rfl, hp0, T.cl_Unit, T.na_Unit_name, rfl, _, rfl, rfl, _, rfl, neF ?_⟩
    refine ⟨_, rfl, p, _, dx, _, _, rfl, hp0, T.cl_Unit, T.na_Unit_kind, rfl, _, rfl, rfl, _, rfl, neF ?_⟩
    refine ⟨_, rfl, p, _, dx, _, _, rfl, hp0, T.cl_Unit, T.na_Unit_opens, rfl, _, rfl, scal_optV _ _, _, rfl, neF ?_⟩
    -- if [..] != [..]
    refine ⟨_, rfl, p, _, dx, _, _, rfl, hp0, T.cl_Unit, T.na_Unit_needs, rfl, _, rfl, p, _, dx, _, _, rfl, hp0, T.cl_Unit, T.na_Unit_wants, rfl, _, rfl, p, _, dx, _, _, rfl, hp0, T.cl_Unit, T.na_Unit_bars, rfl, _, rfl, p, _, dx, _, _, rfl, hp0, T.cl_Unit, T.na_Unit_after, rfl, by show 4 ≤ sizeLine; decide, fun l1 n1 => ?_⟩
    generalize hE1 : upd H l1 _ = H1
    have w1 := new_at hE1
    have s1 := new_same hE1 n1
    refine ⟨_, rfl, _, rfl, _, rfl, _, rfl, by show 4 ≤ sizeLine; decide, fun l2 n2 => ?_⟩
    generalize hE2 : upd H1 l2 _ = H2
    have w2 := new_at hE2
    have s2 := new_same hE2 n2
    have s3 := s1.trans s2
    refine neD_quad (SqL.of (s2 _ _ w1)) (SqL.of w2) (tup_same s3 hn) (tup_same s3 hx) (tup_same s3 hb) (tup_same s3 ha) (SqT.of (s3 _ _ wn)) (SqT.of (s3 _ _ wx)) (SqT.of (s3 _ _ wb)) (SqT.of (s3 _ _ wa)) okn okx okb oka ⟨_, rfl, iteF ?_⟩
    -- if not all([..])
    have hp2 := s3 _ _ hp0
    refine ⟨_, rfl, p, _, dx, _, _, rfl, hp2, T.cl_Unit, T.na_Unit_needs, rfl, _, rfl, p, _, dx, _, _, rfl, hp2, T.cl_Unit, T.na_Unit_wants, rfl, _, rfl, p, _, dx, _, _, rfl, hp2, T.cl_Unit, T.na_Unit_bars, rfl, _, rfl, p, _, dx, _, _, rfl, hp2, T.cl_Unit, T.na_Unit_after, rfl, by show 4 ≤ sizeLine; decide, fun l3 n3 => ?_⟩
    generalize hE3 : upd H2 l3 _ = H3
    have w3 := new_at hE3
    have s4 := s3.trans (new_same hE3 n3)
    refine ⟨l3, rfl, ⟨_, SqT.of w3⟩, fun D nD => lc_tup (K := K) (a := l3) (xs := [.ref an, .ref ax, .ref ab, .ref aa]) (fun i H' => Same H3 H' ∧ H' D = some (.lst (List.replicate i (V.bl true)))) ⟨same_upd nD, upd_same⟩
        (fun i H' _ hp => SqT.of (hp.1 _ _ w3)) ?_ ?_⟩
    · rintro i y H9 hy ⟨s9, w9⟩
      have s10 := s4.trans s9
      have hy' : ∃ (c : Addr) (zs : List V), y = .ref c ∧ SqT K H9 c zs := by
        match i, hy with
        | 0, hy => cases hy; exact ⟨_, _, rfl, tup_same s10 hn⟩
        | 1, hy => cases hy; exact ⟨_, _, rfl, tup_same s10 hx⟩
        | 2, hy => cases hy; exact ⟨_, _, rfl, tup_same s10 hb⟩
        | 3, hy => cases hy; exact ⟨_, _, rfl, tup_same s10 ha⟩
      obtain ⟨c, zs, rfl, hc⟩ := hy'
      have hi : i < 4 := (List.getElem?_eq_some_iff.mp hy).1
      refine ⟨rfl, yes_of (iteT ?_)⟩
      refine ⟨_, rfl, _, _, _, _, true, rfl, .ty "tuple", (UO.plain_ty (show UO.plainTy H9 K (.ref c) "tuple" from Or.inr ⟨rfl, _, hc⟩)).1, kit_ty (by decide +kernel), _, w9, by rw [List.length_replicate]; exact small1000 (by omega), Same.own (q := D) (H1 := H9) s9 (mut_keep rfl) nD, ?_⟩
      rw [upd_same, List.replicate_succ']
    · rintro H9 ⟨s9, w9⟩
      refine ⟨D, List.replicate 4 true, rfl, SqL.of w9, _, rfl, iteF ?_⟩
      have s10 := s4.trans s9
      have hp9 := s10 _ _ hp0
      -- five
      refine ⟨_, rfl, rfl, _, rfl, ?_⟩
      obtain ⟨o1, ho1⟩ : ∃ o, u.five = o := ⟨_, rfl⟩
      rw [ho1] at hr5 hg
      rcases o1 with _ | ⟨f, m, tp, br, sn⟩
      · cases (show r = .non from hr5)
        cases (show g = .non from hg)
        refine iteYd rfl ⟨_, rfl, p, _, dx, _, _, rfl, hp9, T.cl_Unit, T.na_Unit_rule, rfl, rfl, q _ s10⟩
      · obtain ⟨v5, rfl, w5, F⟩ := hg
        obtain ⟨a1, rfl, hr1⟩ := hr5
        refine iteNd (fun z => nomatch z) ⟨_, rfl, p, _, dx, _, _, rfl, hp9, T.cl_Unit, T.na_Unit_rule, rfl, _, rfl, v5, f, m, tp, br, sn, rfl, SqT.of (s10 _ _ w5), fun r2 H' nr s' hr => ?_⟩
        obtain ⟨d1, hr1'⟩ := hr1.same (s10.trans s')
        obtain ⟨d2, hr2'⟩ := hr
        exact ⟨a1, d1, _, _, rfl, hr1', T.ix_Rule.ty T.cl_Rule hr2', UO.first_self _ _, a1, f, m, tp, br, sn, _, rfl, ⟨d1, hr1'⟩, .inl ⟨r2, f, m, tp, br, sn, rfl, ⟨d2, hr2'⟩, true, congrArg V.bl (decide_eq_true ⟨rfl, rfl, rfl, rfl, rfl⟩), q _ (s10.trans s')⟩⟩
def sp_law_made_anew (K : PySem.W.Frag) : Sp := fun vs H Q _ => ∃ (w : Str) (v : V) (u : UF), vs = [.str w, v] ∧ FactAt H v u ∧ UStr u ∧ (u.kind = Str.ofString "work" → u.opens = none) ∧
  ∀ p H', H p = none → Same H H' → UnitAt K H' p w u → Q (.ref p) H'
theorem ok_law_made_anew (T : Txt K mg) : FnOk P w K mg base CX0 7 (He.fAd K ("_law_made_anew", none)) T.d_law_made_anew ["_law_word", "_law_parts"] (sp_law_made_anew K) := by
  refine T.F_law_made_anew.ok sc_law_made_anew (fun vs H Q E h => ?_) (fun cdv A outer s H vs Q E hr h => ?_)
  · obtain ⟨w, v, u, rfl, _⟩ := h
    rfl
  · obtain ⟨w, v, u, rfl, hF, hU, hop, q⟩ := h
    refine ⟨_, PSs.nox (pss_cons (ps_asg (pv 1) (pg_tup rfl (pgs_cons (pg_name (i := 2) sc_law_made_anew.nd rfl (Or.inl rfl)) (pgs_cons (pg_name (i := 3) sc_law_made_anew.nd rfl (Or.inl rfl)) (pgs_cons (pg_name (i := 4) sc_law_made_anew.nd rfl (Or.inl rfl)) (pgs_cons (pg_name (i := 5) sc_law_made_anew.nd rfl (Or.inl rfl)) (pgs_cons (pg_name (i := 6) sc_law_made_anew.nd rfl (Or.inl rfl)) (pgs_cons (pg_name (i := 7) sc_law_made_anew.nd rfl (Or.inl rfl)) (pgs_cons (pg_name (i := 8) sc_law_made_anew.nd rfl (Or.inl rfl)) pgs_nil)))))))))
      (pss_cons (ps_if (PW.pt (pw_or (pt_cmpR op_ne (pv 2) pe_str (nomark _)) (pw_or1 (pt_cmpR op_notN (pv 8) pe_non (nomark _)))))
      (pss_cons (ps_set (i := 9) sc_law_made_anew.nd rfl (Or.inl rfl) (pe_mid (pe_ifExp (pt_cmpR op_isN (pv 8) pe_non (nomark _)) pe_non (pe_call (ok_law_rule T) (hr.mono (by decide)) (by rfl) T.m_law_rule T.F_law_rule.kp T.b_law_rule .nil pass0 (pa_cons (pv 8) pa_nil)))))
      (pss_one (ps_ret (pe_makeK T.mk_Unit (ok_Unit_init T) (hr.mono (by decide)) (by rfl) T.m_Unit T.kb_Unit_init_2_rule_opens_after_bars_wants_needs_kind.choose_spec pass0 (pa_cons (pv 0) pa_nil) (pk_cons (pv 9) (pk_cons (pv 7) (pk_cons (pv 6) (pk_cons (pv 5) (pk_cons (pv 4) (pk_cons (pv 3) (pk_cons (pv 2) pk_nil)))))))))))
      pss_nil)
      (pss_cons (ps_if (PW.pt (pw_and (pt_cmpR (op_eqD hr.units) (pv 5) (pe_tup pa_nil) (nomark _)) (pw_and1 (pt_cmpR (op_eqD hr.units) (pv 6) (pe_tup pa_nil) (nomark _)))))
      (pss_one (ps_ret (pe_makeK0 T.mk_Unit (ok_Unit_init T) (hr.mono (by decide)) (by rfl) T.m_Unit T.kb_Unit_init_1_wants_needs_name.choose_spec pass0 (pk_cons (pv 4) (pk_cons (pv 3) (pk_cons (pv 0) pk_nil))))))
      pss_nil)
      (pss_one (ps_ret (pe_makeK T.mk_Unit (ok_Unit_init T) (hr.mono (by decide)) (by rfl) T.m_Unit T.kb_Unit_init_2_after_bars_needs_wants.choose_spec pass0 (pa_cons (pv 0) pa_nil) (pk_cons (pv 6) (pk_cons (pv 5) (pk_cons (pv 3) (pk_cons (pv 4) pk_nil)))))))))), ?_⟩
    obtain ⟨t, n, x, b, a, g, rfl, wt, wn, wx, wb, wa, hg⟩ := hF
    refine ⟨_, rfl, t, _, rfl, SqT.of wt, rfl, _, _, rfl, _, _, rfl, _, _, rfl, _, _, rfl, _, _, rfl, _, _, rfl, _, _, rfl, rfl, ?_⟩
    have okb : ∀ x ∈ u.bars, PyData.strOk x = true := fun x h => hU x (List.mem_append_left _ (List.mem_append_right _ h))
    have oka : ∀ x ∈ u.after, PyData.strOk x = true := fun x h => hU x (List.mem_append_right _ h)
    refine ⟨_, rfl, rfl, _, rfl, ?_⟩
    rw [UW.dec_str]
    by_cases hk : u.kind = Str.ofString "work"
    · rw [decide_eq_true hk]
      refine iteF ⟨_, rfl, rfl, _, rfl, ?_⟩
      obtain ⟨o0, h5⟩ : ∃ o, u.five = o := ⟨_, rfl⟩
      rcases o0 with _ | o0
      · have hg' := hg
        rw [h5] at hg'
        cases (show g = .non from hg')
        refine neF ?_
        refine ⟨_, rfl, by show 0 ≤ sizeLine; decide, fun e1 n1 => ?_⟩
        generalize hE1 : upd H e1 _ = H1
        have w1 : H1 e1 = some (.tup (([] : List Str).map V.str)) := new_at hE1
        have s1 := new_same hE1 n1
        refine eqD_strsT (SqT.of (s1 _ _ wb)) (SqT.of w1) okb (fun x h => nomatch h) ⟨_, rfl, ?_⟩
        by_cases hb0 : u.bars = []
        · rw [decide_eq_true hb0]
          refine iteT ⟨_, rfl, by show 0 ≤ sizeLine; decide, fun e2 n2 => ?_⟩
          generalize hE2 : upd H1 e2 _ = H2
          have w2 : H2 e2 = some (.tup (([] : List Str).map V.str)) := new_at hE2
          have s2 := s1.trans (new_same hE2 n2)
          refine eqD_strsT (SqT.of (s2 _ _ wa)) (SqT.of w2) oka (fun x h => nomatch h) ⟨_, rfl, ?_⟩
          by_cases ha0 : u.after = []
          · rw [decide_eq_true ha0]
            refine iteT ⟨_, rfl, _, rfl, _, rfl, rfl, rfl, fun p dx np nd ne => ?_⟩
            refine ⟨p, dx, _, _, _, _, _, _, _, _, rfl, upd_same, fun H' wp kp => ⟨rfl, ?_⟩⟩
            have s9 := s2.trans (Same.made np nd fun b o e n => kp b o e n)
            exact q p H' (s2.free np) s9 ⟨dx, n, x, _, _, .non, by rw [hk, hop hk]; exact wp, SqT.of (s9 _ _ wn), SqT.of (s9 _ _ wx), by rw [hb0]; exact T.e0_Unit_init_bars H', by rw [ha0]; exact T.e0_Unit_init_after H', by rw [h5]; rfl⟩
          · rw [decide_eq_false ha0]
            refine iteF ?_
            refine ⟨_, rfl, _, rfl, _, rfl, _, rfl, _, rfl, rfl, rfl, fun p dx np nd ne => ?_⟩
            refine ⟨p, dx, _, _, _, _, _, _, _, _, rfl, upd_same, fun H' wp kp => ⟨rfl, ?_⟩⟩
            have s9 := s2.trans (Same.made np nd fun b o e n => kp b o e n)
            exact q p H' (s2.free np) s9 ⟨dx, n, x, b, a, .non, by rw [hk, hop hk]; exact wp, SqT.of (s9 _ _ wn), SqT.of (s9 _ _ wx), SqT.of (s9 _ _ wb), SqT.of (s9 _ _ wa), by rw [h5]; rfl⟩
        · rw [decide_eq_false hb0]
          refine iteF ?_
          refine ⟨_, rfl, _, rfl, _, rfl, _, rfl, _, rfl, rfl, rfl, fun p dx np nd ne => ?_⟩
          refine ⟨p, dx, _, _, _, _, _, _, _, _, rfl, upd_same, fun H' wp kp => ⟨rfl, ?_⟩⟩
          have s9 := s1.trans (Same.made np nd fun b o e n => kp b o e n)
          exact q p H' (s1.free np) s9 ⟨dx, n, x, b, a, .non, by rw [hk, hop hk]; exact wp, SqT.of (s9 _ _ wn), SqT.of (s9 _ _ wx), SqT.of (s9 _ _ wb), SqT.of (s9 _ _ wa), by rw [h5]; rfl⟩
      · have hgn : g ≠ .non := by
          have hg' := hg
          rw [h5] at hg'
          obtain ⟨f, m, tp, br, sn⟩ := o0
          obtain ⟨v0, e, _⟩ := hg'
          rw [e]
          exact fun z => nomatch z
        rw [decide_eq_false hgn]
        refine iteT ?_
        refine ⟨fun v H' => Same H H' ∧ RuleOpt K H' v u.five, ?_, ?_⟩
        · refine ⟨_, rfl, rfl, _, rfl, ?_⟩
          obtain ⟨o1, ho1⟩ : ∃ o, u.five = o := ⟨_, rfl⟩
          rw [ho1] at hg ⊢
          rcases o1 with _ | ⟨f, m, tp, br, sn⟩
          · cases (show g = .non from hg)
            exact iteYd rfl ⟨Same.refl _, rfl⟩
          · obtain ⟨v5, rfl, w5, F⟩ := hg
            exact iteNd (fun z => nomatch z) ⟨_, rfl, v5, f, m, tp, br, sn, rfl, SqT.of w5, fun r H' nr s' hr => ⟨s', r, rfl, hr⟩⟩
        rintro rv H1 ⟨s1, hr⟩
        refine ⟨_, rfl, _, rfl, _, rfl, _, rfl, _, rfl, _, rfl, _, rfl, _, rfl, rfl, rfl, fun p dx np nd ne => ?_⟩
        refine ⟨p, dx, _, _, _, _, _, _, _, _, rfl, upd_same, fun H' wp kp => ⟨rfl, ?_⟩⟩
        have s2 : Same H1 H' := Same.made np nd fun b o e n => kp b o e n
        have s3 := s1.trans s2
        exact q p H' (s1.free np) s3 ⟨dx, n, x, b, a, rv, wp, SqT.of (s3 _ _ wn), SqT.of (s3 _ _ wx), SqT.of (s3 _ _ wb), SqT.of (s3 _ _ wa), RuleOpt.same hr s2⟩
    · rw [decide_eq_false hk]
      refine iteT ?_
      refine ⟨fun v H' => Same H H' ∧ RuleOpt K H' v u.five, ?_, ?_⟩
      · refine ⟨_, rfl, rfl, _, rfl, ?_⟩
        obtain ⟨o1, ho1⟩ : ∃ o, u.five = o := ⟨_, rfl⟩
        rw [ho1] at hg ⊢
        rcases o1 with _ | ⟨f, m, tp, br, sn⟩
        · cases (show g = .non from hg)
          exact iteYd rfl ⟨Same.refl _, rfl⟩
        · obtain ⟨v5, rfl, w5, F⟩ := hg
          exact iteNd (fun z => nomatch z) ⟨_, rfl, v5, f, m, tp, br, sn, rfl, SqT.of w5, fun r H' nr s' hr => ⟨s', r, rfl, hr⟩⟩
      rintro rv H1 ⟨s1, hr⟩
      refine ⟨_, rfl, _, rfl, _, rfl, _, rfl, _, rfl, _, rfl, _, rfl, _, rfl, rfl, rfl, fun p dx np nd ne => ?_⟩
      refine ⟨p, dx, _, _, _, _, _, _, _, _, rfl, upd_same, fun H' wp kp => ⟨rfl, ?_⟩⟩
      have s2 : Same H1 H' := Same.made np nd fun b o e n => kp b o e n
      have s3 := s1.trans s2
      exact q p H' (s1.free np) s3 ⟨dx, n, x, b, a, rv, wp, SqT.of (s3 _ _ wn), SqT.of (s3 _ _ wx), SqT.of (s3 _ _ wb), SqT.of (s3 _ _ wa), RuleOpt.same hr s2⟩

/-! ### a unit's text, a unit bent -/
def sp_Unit_repr (K : PySem.W.Frag) : Sp := fun vs H Q _ => ∃ (p : Addr) (w : Str) (u : UF), vs = [.ref p] ∧ UnitAt K H p w u ∧ w.length ≤ 100 ∧ Q (.str (Str.ofString "Unit(" ++ w ++ Str.ofString ")")) H
theorem ok_Unit_repr (T : Txt K mg) : FnOk P w K mg base CX0 1 (He.fAd K ("Unit", some "__repr__")) T.d_Unit_repr ["self"] (sp_Unit_repr K) := by
  refine T.F_Unit_repr.ok sc_Unit_repr (fun vs H Q E h => ?_) (fun cdv A outer s H vs Q E hr h => ?_)
  · obtain ⟨p, w, u, rfl, _⟩ := h
    rfl
  · obtain ⟨p, w, u, rfl, hp, hw, q⟩ := h
    refine ⟨_, PSs.nox (pss_one (ps_ret (pe_joined (PJ.cons pe_str (PJ.cons (pe_fmt (pe_fld (pv 0) rfl)) (PJ.cons pe_str PJ.nil)))))), ?_⟩
    obtain ⟨dx, an, ax, ab, aa, r, hp0, _⟩ := hp
    have l1 : (Str.ofString "Unit(").length = 5 := by decide +kernel
    have l2 : (Str.ofString ")").length = 1 := by decide +kernel
    have l0 : (Str.empty).length = 0 := by decide +kernel
    have la : ∀ x y : Str, (x ++ y).length = x.length + y.length := fun x y => by rw [TL.len_tl, TL.len_tl, TL.len_tl, TL.tl_append, List.length_append]
    have lo : ∀ {n : Nat}, n ≤ 1000 → n ≤ sizeLine := fun h => Nat.le_of_lt (small1000 h)
    refine ⟨_, rfl, lo (by rw [la, l0, l1]; omega), _, rfl, p, _, dx, _, _, rfl, hp0, T.cl_Unit, T.na_Unit_name, rfl, .inl ⟨w, rfl, lo (by omega), _, rfl, lo (by simp only [la, l0, l1]; omega), _, rfl, lo (by simp only [la, l0, l1, l2]; omega), ?_⟩⟩
    rw [Str.empty_append]
    exact q
theorem FactS.same {H H' : Hp} {v : V} {u : UF} (h : FactS K H v u) (s : Same H H') : FactS K H' v u := by
  obtain ⟨t, n, x, b, a, g, e, h0, h1, h2, h3, h4, h5⟩ := h
  exact ⟨t, n, x, b, a, g, e, tup_same s h0, tup_same s h1, tup_same s h2, tup_same s h3, tup_same s h4, h5.same s⟩
theorem cutV_from1 (xs : List Str) : cutV (xs.map V.str) (some 1) none = (xs.drop 1).map V.str := by
  unfold cutV
  rw [show HT.sIx (xs.map V.str).length 0 (some 1) = min 1 (xs.map V.str).length from HT.sIx_nat _ 0 1, HT.sIx_none]
  cases xs with
  | nil => rfl
  | cons x r =>
    rw [List.length_map, List.length_cons, Nat.min_eq_left (by omega), List.map_cons]
    show (r.map V.str).take (r.length + 1 - 1) = r.map V.str
    rw [List.take_of_length_le (by rw [List.length_map]; omega)]
theorem rev_ne {xs : List Str} (hn : xs.Nodup) (hl : 1 < xs.length) : xs.reverse ≠ xs := fun e => by
  have h1 : xs.reverse[0]? = xs[xs.length - 1]? := by
    rw [List.getElem?_reverse (by omega)]
    rfl
  rw [e] at h1
  have := (List.getElem?_inj (by omega) hn).mp h1
  omega
theorem drop_ne {xs : List Str} (h : xs ≠ []) : xs.drop 1 ≠ xs := fun e => by
  have := congrArg List.length e
  rw [List.length_drop] at this
  have := List.length_pos_iff.mpr h
  omega
/-- the seven facts as values -/
def FactV (K : PySem.W.Frag) (H : Hp) (vs : List V) (u : UF) : Prop := ∃ (n x b a : Addr) (g : V), vs = [.str u.kind, .ref n, .ref x, .ref b, .ref a, optV u.opens, g] ∧
  SqT K H n (u.needs.map V.str) ∧ SqT K H x (u.wants.map V.str) ∧ SqT K H b (u.bars.map V.str) ∧ SqT K H a (u.after.map V.str) ∧ FiveAt H g u.five
theorem FactV.s {H : Hp} {vs : List V} {u : UF} {t : Addr} (h : FactV K H vs u) (ht : SqT K H t vs) : FactS K H (.ref t) u := by
  obtain ⟨n, x, b, a, g, rfl, h1, h2, h3, h4, h5⟩ := h
  exact ⟨t, n, x, b, a, g, rfl, ht, h1, h2, h3, h4, h5⟩
theorem FactV.same {H H' : Hp} {vs : List V} {u : UF} (h : FactV K H vs u) (s : Same H H') : FactV K H' vs u := by
  obtain ⟨n, x, b, a, g, e, h1, h2, h3, h4, h5⟩ := h
  exact ⟨n, x, b, a, g, e, tup_same s h1, tup_same s h2, tup_same s h3, tup_same s h4, h5.same s⟩
theorem FactV.keep {H H' : Hp} {vs ys : List V} {u : UF} {q : Addr} (h : FactV K H vs u) (k : Kp q H H') (hq : H q = some (.lst ys)) : FactV K H' vs u := by
  obtain ⟨n, x, b, a, g, e, h1, h2, h3, h4, h5⟩ := h
  have nt := NotTp.lst hq
  exact ⟨n, x, b, a, g, e, k.tup nt h1, k.tup nt h2, k.tup nt h3, k.tup nt h4, h5.keep k (NotTup.lst hq)⟩
theorem line1000 {n : Nat} (h : n ≤ 1000) : n ≤ sizeLine := Nat.le_of_lt (small1000 h)
def sp_law_bent (K : PySem.W.Frag) : Sp := fun vs H Q _ => ∃ (p : Addr) (n : Nat) (w : Str) (v : V) (u : UF) (ns ss : List Str), vs = [.ref p, .str w, v] ∧ Bag n H p ∧ n < 700000000 ∧ FactAt H v u ∧ UOk ns ss w u ∧ Nm w ∧ (∀ x ∈ ns, Nm x) ∧ (∀ x ∈ ss, Nm x) ∧ ns.length ≤ 16 ∧ ss.length ≤ 2 ∧
  ∀ t w' v' u' H', H' t = some (.tup [.str w', v']) → FactS K H' v' u' → UStr u' → w'.length ≤ 100 → ¬ (w = w' ∧ u = u') → H t = none → Bag (n + 2) H' p → Kp p H H' → Q (.ref t) H'
theorem ok_law_bent (T : Txt K mg) : FnOk P w K mg base CX0 7 (He.fAd K ("_law_bent", none)) T.d_law_bent ["_law_bag_here", "_law_word", "_law_parts"] (sp_law_bent K) := by
  refine T.F_law_bent.ok sc_law_bent (fun vs H Q E h => ?_) (fun cdv A outer s H vs Q E hr h => ?_)
  · obtain ⟨p, n, w, v, u, ns, ss, rfl, _⟩ := h
    rfl
  · obtain ⟨p, n, w, v, u, ns, ss, rfl, B, hn, hF, hO, hw, hns, hss, hnl, hsl, q⟩ := h
    refine ⟨_, PSs.nox (pss_cons (ps_set (i := 3) sc_law_bent.nd rfl (Or.inl rfl) (pe_callTy (T := "list")  call_list_of (by rfl) T.n_list (by decide +kernel) (pa_cons (pv 2) pa_nil)))
      (pss_cons (ps_set (i := 4) sc_law_bent.nd rfl (Or.inl rfl) (pe_call (ok_law_take T) (hr.mono (by decide)) (by rfl) T.m_law_take T.F_law_take.kp T.b_law_take .nil pass0 (pa_cons (pv 0) (pa_cons pe_int pa_nil))))
      (pss_cons (ps_set (i := 5) sc_law_bent.nd rfl (Or.inr rfl) (pe_op op_cat (pe_lst (pa_cons (pv 1) (pa_cons (pe_ix ix_tup (pv 2) pe_int (fun _ _ => rfl)) pa_nil))) (pe_callTy (T := "list")  call_list_of (by rfl) T.n_list (by decide +kernel) (pa_cons (pe_op op_catA (pe_op op_catA (pe_op op_catA (pe_ix ix_tup (pv 2) pe_int (fun _ _ => rfl)) (pe_ix ix_tup (pv 2) pe_int (fun _ _ => rfl))) (pe_ix ix_tup (pv 2) pe_int (fun _ _ => rfl))) (pe_ix ix_tup (pv 2) pe_int (fun _ _ => rfl))) pa_nil))))
      (pss_cons (ps_if (pt_cmpR op_eq (pv 4) pe_int (nomark _))
      (pss_one (ps_ret (pe_tup (pa_cons (pe_ix ix_list (pe_lc (own := [("_law_one", 7)]) (by rfl) sc_law_bent.nd (pi_str pe_str) (blkOk_by (own := [("_law_one", 7)]) (N := N_law_bent) (sc := defScope s_law_bent) (by decide +kernel)) (fun _ _ _ _ _ => (pg_name (i := 7) sc_law_bent.nd rfl (Or.inl rfl))) (fun _ _ _ _ _ => (pts_one (pt_cmpR (r := rIn K true) op_notIn_seq (pe_op op_add_str (pv 7) (pe_slice sl_str (pv 1) (po_some pe_int) po_none)) (pv 5) (by rfl)))) (fun _ _ _ _ _ => (pe_op op_add_str (pv 7) (pe_slice sl_str (pv 1) (po_some pe_int) po_none)))) pe_int (fun _ _ => rfl)) (pa_cons (pv 2) pa_nil)))))
      pss_nil)
      (pss_cons (ps_set (i := 6) sc_law_bent.nd rfl (Or.inl rfl) (pe_ix ix_list (pe_lc (own := [("_law_one", 7)]) (by rfl) sc_law_bent.nd (pi_str pe_str) (blkOk_by (own := [("_law_one", 7)]) (N := N_law_bent) (sc := defScope s_law_bent) (by decide +kernel)) (fun _ _ _ _ _ => (pg_name (i := 7) sc_law_bent.nd rfl (Or.inl rfl))) (fun _ _ _ _ _ => (pts_one (pt_cmpR (r := rIn K true) op_notIn_seq (pe_op op_add_str (pv 7) pe_str) (pv 5) (by rfl)))) (fun _ _ _ _ _ => (pe_op op_add_str (pv 7) pe_str))) pe_int (fun _ _ => rfl)))
      (pss_mid (ps_if (pt_cmpR op_eq (pv 4) pe_int (nomark _))
      (pss_cons (ps_if (pt_cmpR op_eq (pe_ix ix_tup (pv 2) pe_int (fun _ _ => rfl)) pe_str (nomark _))
      (pss_one (ps_ret (pe_tup (pa_cons (pv 1) (pa_cons (pe_op op_catA (pe_op op_catA (pe_tup (pa_cons pe_str pa_nil)) (pe_slice sl_tupA (pv 2) (po_some pe_int) (po_some pe_int))) (pe_tup (pa_cons pe_non (pa_cons (pe_ix ix_tup (pv 2) pe_int (fun _ _ => rfl)) pa_nil)))) pa_nil)))))
      pss_nil)
      (pss_one (ps_asg (pe_mid (pe_ifExp (pt_cmpR op_eq (pe_ix ix_tup (pv 2) pe_int (fun _ _ => rfl)) pe_str (nomark _)) pe_str pe_str)) (pg_sub (pv 3) pe_int set_list))))
      (pss_one (ps_if (pt_cmpR op_lt (pv 4) pe_int (nomark _))
      (pss_cons (ps_asg (pe_mid (pe_ifExp (pt_cmpR op_gt (pe_callB (id := "len")  call_len_seq (by rfl) T.n_len (by decide +kernel) (pa_cons (pe_ix ix_tup (pv 2) (pv 4) (fun _ _ => rfl)) pa_nil)) pe_int (nomark _)) (pe_slice sl_tupA (pe_ix ix_tup (pv 2) (pv 4) (fun _ _ => rfl)) (po_some pe_int) po_none) (pe_tup (pa_cons (pv 6) pa_nil)))) (pg_sub (pv 3) (pv 4) set_list))
      (pss_one (ps_if (PW.pt (pw_and (pt_cmpR op_gt (pe_callB (id := "len")  call_len_seq (by rfl) T.n_len (by decide +kernel) (pa_cons (pe_ix ix_tup (pv 2) (pv 4) (fun _ _ => rfl)) pa_nil)) pe_int (nomark _)) (pw_and1 (pt_cmpR op_eq (pe_call (ok_law_take T) (hr.mono (by decide)) (by rfl) T.m_law_take T.F_law_take.kp T.b_law_take .nil pass0 (pa_cons (pv 0) (pa_cons pe_int pa_nil))) pe_int (nomark _)))))
      (pss_one (ps_asg (pe_revT (pe_ix ix_tup (pv 2) (pv 4) (fun _ _ => rfl))) (pg_sub (pv 3) (pv 4) set_list)))
      pss_nil)))
      (pss_one (ps_if (pt_cmpR op_eq (pv 4) pe_int (nomark _))
      (pss_one (ps_asg (pe_tup (pa_cons pe_str (pa_cons (pv 6) pa_nil))) (pg_tup rfl (pgs_cons (pg_sub (pv 3) pe_int set_list) (pgs_cons (pg_sub (pv 3) pe_int set_list) pgs_nil)))))
      (pss_one (ps_asg (pe_mid (pe_ifExp (pt_cmpR op_isN (pe_ix ix_tup (pv 2) pe_int (fun _ _ => rfl)) pe_non (nomark _)) (pe_tup (pa_cons pe_int (pa_cons pe_int (pa_cons pe_int (pa_cons pe_int (pa_cons pe_int pa_nil)))))) pe_non)) (pg_sub (pv 3) pe_int set_list))))))))
      (pss_one (ps_ret (pe_tup (pa_cons (pv 1) (pa_cons (pe_callTy (T := "tuple")  call_tuple_of (by rfl) T.n_tuple (by decide +kernel) (pa_cons (pv 3) pa_nil)) pa_nil))))))))))), ?_⟩
    obtain ⟨t, an, ax, ab, aa, g, rfl, wt, wn, wx, wb, wa, hg⟩ := hF
    -- found = list(parts)
    refine ⟨_, rfl, t, _, rfl, .inr (SqT.of wt), fun l nl => ?_⟩
    generalize hE1 : upd H l _ = H1
    have wl := new_at hE1
    have s1 := new_same hE1 nl
    have npl := B.ne nl
    -- at
    refine ⟨_, rfl, ?_⟩
    refine take_of (z := 8) (B.same s1) (by decide) (by decide) (by omega) fun r H2 r0 r1 B2 k2 => ?_
    have kA : Kp p H H2 := (Kp.of s1).trans k2
    have keepT : ∀ c xs, H c = some (.tup xs) → H2 c = some (.tup xs) := fun c xs h => kA _ _ h fun e => by
      rw [e] at h
      exact B.notTup _ h
    have wt := keepT _ _ wt
    have wn := keepT _ _ wn
    have wx := keepT _ _ wx
    have wb := keepT _ _ wb
    have wa := keepT _ _ wa
    have hg := hg.keep kA B.notTup
    have wl := k2 _ _ wl npl.symm
    have nlH := nl
    -- used
    have lN := hO.lN
    have lW := hO.lW
    have lB := hO.lB
    have lA := hO.lA
    refine ⟨_, rfl, _, rfl, t, _, _, _, rfl, rfl, SqT.of wt, atI_nat (j := 5) rfl, by show 2 ≤ sizeLine; decide, fun l2 n2 => ?_⟩
    generalize hE3 : upd H2 l2 _ = H3
    have w3 := new_at hE3
    have s3 := new_same hE3 n2
    have wt3 := s3 _ _ wt
    refine ⟨_, rfl, t, _, _, _, rfl, rfl, SqT.of wt3, atI_nat (j := 1) rfl, _, rfl, t, _, _, _, rfl, rfl, SqT.of wt3, atI_nat (j := 2) rfl, catA (SqT.of (s3 _ _ wn)) (SqT.of (s3 _ _ wx)) (by rw [List.length_map, List.length_map]; omega) fun c1 H4 s4 q1 => ?_⟩
    have s34 := s3.trans s4
    refine ⟨_, rfl, t, _, _, _, rfl, rfl, SqT.of (s34 _ _ wt), atI_nat (j := 3) rfl, catA q1 (SqT.of (s34 _ _ wb)) (by rw [List.length_append, List.length_map, List.length_map, List.length_map]; omega) fun c2 H5 s5 q2 => ?_⟩
    have s35 := s34.trans s5
    refine ⟨_, rfl, t, _, _, _, rfl, rfl, SqT.of (s35 _ _ wt), atI_nat (j := 4) rfl, catA q2 (SqT.of (s35 _ _ wa)) (by rw [List.length_append, List.length_append, List.length_map, List.length_map, List.length_map, List.length_map]; omega) fun c3 H6 s6 q3 => ?_⟩
    have s36 := s35.trans s6
    refine ⟨c3, _, rfl, .inr q3, fun l3 n3 => ?_⟩
    generalize hE7 : upd H6 l3 _ = H7
    have w7 := new_at hE7
    have s7 := new_same hE7 n3
    have s67 := s6.trans s7
    refine ⟨l2, l3, _, _, rfl, rfl, s7 _ _ (s6 _ _ (s5 _ _ (s4 _ _ w3))), w7, line1000 (by simp only [List.length_append, List.length_map, List.length_cons, List.length_nil]; omega), fun l4 n4 => ?_⟩
    generalize hU8 : ([V.str w, optV u.opens] ++ (u.needs.map V.str ++ u.wants.map V.str ++ u.bars.map V.str ++ u.after.map V.str)) = used
    have hflat : used.all flatV = true := by
      rw [← hU8, List.all_append, List.all_append, List.all_append, List.all_append, strs_flat, strs_flat, strs_flat, strs_flat]
      cases u.opens <;> rfl
    have hused : ∀ y, V.str y ∈ used → y ∈ w :: (ns ++ ss) := fun y hy => by
      have inn : y ∈ u.named → y ∈ w :: (ns ++ ss) := fun h => List.mem_cons_of_mem _ (List.mem_append.mpr (hO.mem y h).1)
      have st : ∀ xs : List Str, V.str y ∈ xs.map V.str → y ∈ xs := fun xs h => by
        obtain ⟨z, hz, e⟩ := List.mem_map.mp h
        cases e
        exact hz
      rw [← hU8] at hy
      rcases List.mem_append.mp hy with hy | hy
      · rcases List.mem_cons.mp hy with e | hy
        · cases e
          exact List.mem_cons_self ..
        · have e := List.mem_singleton.mp hy
          cases ho : u.opens with
          | none => rw [ho] at e; cases e
          | some o =>
            rw [ho] at e
            cases e
            exact inn (by unfold UF.named; rw [ho]; exact List.mem_append_right _ (List.mem_singleton.mpr rfl))
      · rw [← List.map_append, ← List.map_append, ← List.map_append] at hy
        exact inn (List.mem_append_left _ (st _ hy))
    have hwU : V.str w ∈ used := by
      rw [← hU8]
      exact List.mem_append_left _ (List.mem_cons_self ..)
    have hoU : optV u.opens ∈ used := by
      rw [← hU8]
      exact List.mem_append_left _ (List.mem_cons_of_mem _ (List.mem_singleton.mpr rfl))
    generalize hE8 : upd H7 l4 _ = H8
    have w8 := new_at hE8
    have s8 := new_same hE8 n4
    have s28 : Same H2 H8 := (s36.trans s7).trans s8
    have kB : Kp p H H8 := kA.same s28
    have B8 := B2.same s28
    have wt8 := s28 _ _ wt
    have wl8 := s28 _ _ wl
    have hS : FactS K H8 (.ref t) u := ⟨t, an, ax, ab, aa, g, rfl, .of wt8, .of (s28 _ _ wn), .of (s28 _ _ wx), .of (s28 _ _ wb), .of (s28 _ _ wa), hg.same s28⟩
    have okU : UStr u := fun x hx => by
      rcases (hO.mem x (List.mem_append_left _ hx)).1 with h | h
      · exact (hns x h).ok
      · exact (hss x h).ok
    have ltail : (tailS w).length ≤ 8 := Nat.le_trans (cutS_length _ _ _) hw.2.2
    have lother : (Str.ofString "other").length = 5 := by decide +kernel
    -- if at == 7
    refine ⟨_, rfl, rfl, _, rfl, ?_⟩
    refine ite2 (fun h7 => ?_) (fun h7 => ?_)
    · refine ⟨_, rfl, fun D nD => ?_⟩
      refine lc_it (walk_str (z := lettersS)) (fun j H' => Same H8 H' ∧ H' D = some (.lst ((((List.range j).map fun i => (⟨#[97 + i]⟩ : Str) ++ tailS w).filter fun y => !inV (.str y) used).map V.str))) ⟨same_upd nD, upd_same⟩ (fun _ _ _ _ => trivial) ?_ ?_
      · rintro j x H9 H9' hj ⟨s9, w9⟩ ⟨rfl, c, hc', rfl⟩
        obtain ⟨hj26, rfl⟩ := letters_get hc'
        refine ⟨rfl, ?_⟩
        have ltot : ((⟨#[97 + j]⟩ : Str).length + (tailS w).length) ≤ sizeLine := by
          have h1 : (⟨#[97 + j]⟩ : Str).length = 1 := rfl
          rw [h1]
          exact line1000 (by omega)
        refine ⟨_, rfl, _, rfl, _, rfl, w, rfl, Nat.le_trans hw.2.2 (by decide), _, _, rfl, rfl, ltot, _, rfl, l4, _, rfl, .inl (SqL.of (s9 _ _ w8)), rfl, hflat, _, rfl, ?_⟩
        rw [range_map_succ', List.filter_append, List.map_append]
        show if (if true = true then !inV (.str ((⟨#[97 + j]⟩ : Str) ++ tailS w)) used else _) = true then _ else _
        rw [if_pos rfl]
        cases hin : inV (.str ((⟨#[97 + j]⟩ : Str) ++ tailS w)) used
        · refine iteT ?_
          refine ⟨_, rfl, _, rfl, _, rfl, w, rfl, Nat.le_trans hw.2.2 (by decide), _, _, rfl, rfl, ltot, _, w9, ?_, Same.own (q := D) (H1 := H9') s9 (mut_keep rfl) nD, ?_⟩
          · rw [List.length_map]
            refine Nat.lt_of_le_of_lt (List.length_filter_le _ _) ?_
            rw [List.length_map, List.length_range]
            exact small1000 (by omega)
          · rw [upd_same, List.filter_cons_of_pos (p := fun y => !inV (.str y) used) (by rw [hin]; rfl)]
            rfl
        · refine iteF ⟨s9, ?_⟩
          rw [List.filter_cons_of_neg (p := fun y => !inV (.str y) used) (by rw [hin]; exact Bool.false_ne_true)]
          rw [List.filter_nil, List.map_nil, List.append_nil]
          exact w9
      rintro H9 ⟨s9, w9⟩
      rw [letters_size] at w9
      obtain ⟨z, zs, ez, hz, hzc⟩ := frees_ok (x := tailS w) hused (by simp only [List.length_cons, List.length_append]; omega)
      change H9 D = some (.lst ((frees (tailS w) used).map V.str)) at w9
      rw [ez] at w9
      refine ⟨D, _, _, _, rfl, rfl, SqL.of w9, at0, _, rfl, by show 2 ≤ sizeLine; decide, fun tt ntt => ?_⟩
      generalize hE10 : upd H9 tt _ = H10
      have w10 := new_at hE10
      have s10 := s9.trans (new_same hE10 ntt)
      exact q tt z (.ref t) u H10 w10 (hS.same s10) okU (by rw [cand_len hzc]; omega) (fun e => hz (e.1 ▸ hwU)) ((kB.same s9).free ntt ((B8.same s9).ne ntt).symm) ((B8.same s10).le (by omega)) (kB.same s10)
    refine ⟨_, rfl, fun D nD => ?_⟩
    refine lc_it (walk_str (z := lettersS)) (fun j H' => Same H8 H' ∧ H' D = some (.lst ((((List.range j).map fun i => (⟨#[97 + i]⟩ : Str) ++ Str.ofString "other").filter fun y => !inV (.str y) used).map V.str))) ⟨same_upd nD, upd_same⟩ (fun _ _ _ _ => trivial) ?_ ?_
    · rintro j x H9 H9' hj ⟨s9, w9⟩ ⟨rfl, c, hc', rfl⟩
      obtain ⟨hj26, rfl⟩ := letters_get hc'
      refine ⟨rfl, ?_⟩
      have ltot : ((⟨#[97 + j]⟩ : Str).length + (Str.ofString "other").length) ≤ sizeLine := by
        have h1 : (⟨#[97 + j]⟩ : Str).length = 1 := rfl
        rw [h1]
        exact line1000 (by omega)
      refine ⟨_, rfl, _, _, rfl, rfl, ltot, _, rfl, l4, _, rfl, .inl (SqL.of (s9 _ _ w8)), rfl, hflat, _, rfl, ?_⟩
      rw [range_map_succ', List.filter_append, List.map_append]
      show if (if true = true then !inV (.str ((⟨#[97 + j]⟩ : Str) ++ Str.ofString "other")) used else _) = true then _ else _
      rw [if_pos rfl]
      cases hin : inV (.str ((⟨#[97 + j]⟩ : Str) ++ Str.ofString "other")) used
      · refine iteT ?_
        refine ⟨_, rfl, _, _, rfl, rfl, ltot, _, w9, ?_, Same.own (q := D) (H1 := H9') s9 (mut_keep rfl) nD, ?_⟩
        · rw [List.length_map]
          refine Nat.lt_of_le_of_lt (List.length_filter_le _ _) ?_
          rw [List.length_map, List.length_range]
          exact small1000 (by omega)
        · rw [upd_same, List.filter_cons_of_pos (p := fun y => !inV (.str y) used) (by rw [hin]; rfl)]
          rfl
      · refine iteF ⟨s9, ?_⟩
        rw [List.filter_cons_of_neg (p := fun y => !inV (.str y) used) (by rw [hin]; exact Bool.false_ne_true)]
        rw [List.filter_nil, List.map_nil, List.append_nil]
        exact w9
    rintro H9 ⟨s9, w9⟩
    rw [letters_size] at w9
    obtain ⟨z, zs, ez, hz, hzc⟩ := frees_ok (x := Str.ofString "other") hused (by simp only [List.length_cons, List.length_append]; omega)
    change H9 D = some (.lst ((frees (Str.ofString "other") used).map V.str)) at w9
    rw [ez] at w9
    refine ⟨D, _, _, _, rfl, rfl, SqL.of w9, at0, ?_⟩
    have wt9 := s9 _ _ wt8
    have wl9 := s9 _ _ wl8
    have kC : Kp p H H9 := kB.same s9
    have B9 := B8.same s9
    have zok : PyData.strOk z = true := by
      obtain ⟨i, hi, rfl⟩ := List.mem_map.mp hzc
      have hi := List.mem_range.mp hi
      refine Nm.ok ⟨fun c hc => ?_, ?_, ?_⟩
      · rw [sign_app_tl] at hc
        rcases List.mem_cons.mp hc with rfl | hc
        · omega
        · rw [show (Str.ofString "other").cps.toList = [111, 116, 104, 101, 114] by decide +kernel] at hc
          simp only [List.mem_cons, List.not_mem_nil, or_false] at hc
          omega
      · rw [len_tl', sign_app_tl]
        exact Nat.zero_lt_succ _
      · rw [len_tl', sign_app_tl, List.length_cons, ← len_tl', lother]
        decide
    have hV : FactV K H9 [.str u.kind, .ref an, .ref ax, .ref ab, .ref aa, optV u.opens, g] u := ⟨an, ax, ab, aa, g, rfl, .of (s9 _ _ (s28 _ _ wn)), .of (s9 _ _ (s28 _ _ wx)), .of (s9 _ _ (s28 _ _ wb)), .of (s9 _ _ (s28 _ _ wa)), (hg.same s28).same s9⟩
    refine ⟨fun σ H' => Bag (n + 2) H' p ∧ Kp p H H' ∧ ∃ (vs : List V) (u' : UF) (y4 y5 y6 y7 : Option V), H' l = some (.lst vs) ∧ FactV K H' vs u' ∧ UStr u' ∧ u ≠ u' ∧ σ = [some (.ref p), some (.str w), some (.ref t), some (.ref l), y4, y5, y6, y7], ?_, ?_⟩
    · refine ⟨_, rfl, rfl, _, rfl, ?_⟩
      have nt := NotTp.lst wl9
      have mkp : ∀ o, Kp l H9 (upd H9 l o) := fun o => mut_keep rfl
      have hN9 : SqT K H9 an (u.needs.map V.str) := .of (s9 _ _ (s28 _ _ wn))
      have hX9 : SqT K H9 ax (u.wants.map V.str) := .of (s9 _ _ (s28 _ _ wx))
      have hB9 : SqT K H9 ab (u.bars.map V.str) := .of (s9 _ _ (s28 _ _ wb))
      have hA9 : SqT K H9 aa (u.after.map V.str) := .of (s9 _ _ (s28 _ _ wa))
      have hg9 : FiveAt H9 g u.five := (hg.same s28).same s9
      refine ite2 (fun h0 => ?_) (fun h0 => ?_)
      · refine ⟨_, rfl, t, _, _, _, rfl, rfl, SqT.of wt9, at0, rfl, _, rfl, ?_⟩
        rw [UW.dec_str]
        by_cases hd : u.kind = Str.ofString "door"
        · rw [decide_eq_true hd]
          refine iteT ⟨_, rfl, by show 1 ≤ sizeLine; decide, fun ta nta => ?_⟩
          generalize hE10 : upd H9 ta _ = H10
          have w10 := new_at hE10
          have s10 := new_same hE10 nta
          refine ⟨_, rfl, _, rfl, _, rfl, slA (SqT.of (s10 _ _ wt9)) fun tb H11 s11 hb => ?_⟩
          have hb : SqT K H11 tb [.ref an, .ref ax, .ref ab, .ref aa] := hb
          refine catA (SqT.of (s11 _ _ w10)) hb (by show 1 + 4 ≤ 1000; decide) fun tc H12 s12 hc => ?_
          have sA := (s10.trans s11).trans s12
          refine ⟨_, rfl, t, _, _, _, rfl, rfl, SqT.of (sA _ _ wt9), atI_nat (j := 6) rfl, by show 2 ≤ sizeLine; decide, fun td ntd => ?_⟩
          generalize hE13 : upd H12 td _ = H13
          have w13 := new_at hE13
          have s13 := new_same hE13 ntd
          refine catA (tup_same s13 hc) (SqT.of w13) (by show 5 + 2 ≤ 1000; decide) fun te H14 s14 he => ?_
          have sB := (sA.trans s13).trans s14
          refine ⟨by show 2 ≤ sizeLine; decide, fun tt ntt => ?_⟩
          generalize hE15 : upd H14 tt _ = H15
          have w15 := new_at hE15
          have s15 := new_same hE15 ntt
          have sC := sB.trans s15
          refine q tt w (.ref te) ⟨Str.ofString "work", u.needs, u.wants, u.bars, u.after, none, u.five⟩ H15 w15 ⟨te, an, ax, ab, aa, g, rfl, tup_same s15 he, tup_same sC hN9, tup_same sC hX9, tup_same sC hB9, tup_same sC hA9, hg9.same sC⟩ okU (by have := hw.2.2; omega) (fun e => ?_) ((kC.same sB).free ntt ((B9.same sB).ne ntt).symm) ((B9.same sC).le (by omega)) (kC.same sC)
          have h9 := congrArg UF.kind e.2
          rw [hd] at h9
          exact absurd (show Str.ofString "door" = Str.ofString "work" from h9) (by decide +kernel)
        · rw [decide_eq_false hd]
          refine iteF ⟨fun v H' => H' = H9 ∧ ∃ k2 : Str, v = .str k2 ∧ k2 ≠ u.kind, ?_, ?_⟩
          · refine ⟨_, rfl, t, _, _, _, rfl, rfl, SqT.of wt9, at0, rfl, _, rfl, ?_⟩
            rw [UW.dec_str]
            by_cases hk : u.kind = Str.ofString "work"
            · rw [decide_eq_true hk]
              exact iteT ⟨rfl, _, rfl, by rw [hk]; decide +kernel⟩
            · rw [decide_eq_false hk]
              exact iteF ⟨rfl, _, rfl, fun e => hk e.symm⟩
          rintro v H' ⟨rfl, k2, rfl, hk2⟩
          refine ⟨_, rfl, l, _, _, 0, rfl, rfl, wl9, rfl, ?_⟩
          exact ⟨(B9.keep (mkp _) npl).le (by omega), kC.own (mkp _) nlH, _, ⟨k2, u.needs, u.wants, u.bars, u.after, u.opens, u.five⟩, _, _, _, _, upd_same, ⟨an, ax, ab, aa, g, rfl, (mkp _).tup nt hN9, (mkp _).tup nt hX9, (mkp _).tup nt hB9, (mkp _).tup nt hA9, hg9.keep (mkp _) (NotTup.lst wl9)⟩, okU, fun e => hk2 (congrArg UF.kind e).symm, rfl⟩
      refine ⟨_, rfl, _, _, rfl, rfl, _, rfl, ?_⟩
      have hr0 : r ≠ 0 := fun e => h0 (by rw [e]; exact decide_eq_true rfl)
      refine ite2 (fun h5 => ?_) (fun h5 => ?_)
      · have h5 := of_decide_eq_true h5
        obtain rfl | rfl | rfl | rfl : r = 1 ∨ r = 2 ∨ r = 3 ∨ r = 4 := by omega
        · have okF : ∀ x ∈ u.needs, PyData.strOk x = true := fun x hx => okU x (List.mem_append_left _ (List.mem_append_left _ (List.mem_append_left _ hx)))
          have okV : ∀ ys : List Str, (∀ y ∈ ys, PyData.strOk y = true) → UStr ⟨u.kind, ys, u.wants, u.bars, u.after, u.opens, u.five⟩ := fun ys oky => fun x hx => by
            rcases List.mem_append.mp hx with hx | hx
            · rcases List.mem_append.mp hx with hx | hx
              · rcases List.mem_append.mp hx with hx | hx
                · exact oky x hx
                · exact okU x (List.mem_append_left _ (List.mem_append_left _ (List.mem_append_right _ hx)))
              · exact okU x (List.mem_append_left _ (List.mem_append_right _ hx))
            · exact okU x (List.mem_append_right _ hx)
          refine ⟨fun v H' => Same H9 H' ∧ ∃ (c : Addr) (ys : List Str), v = .ref c ∧ SqT K H' c (ys.map V.str) ∧ (∀ y ∈ ys, PyData.strOk y = true) ∧ ys ≠ u.needs, ?_, ?_⟩
          · refine ⟨_, rfl, _, rfl, t, _, _, _, rfl, rfl, SqT.of wt9, atI_nat (j := 1) rfl, an, _, rfl, .inr hN9, _, _, rfl, rfl, _, rfl, ?_⟩
            rw [List.length_map]
            by_cases he : u.needs = []
            · refine iteNd (by rw [he]; decide) ⟨_, rfl, by show 1 ≤ sizeLine; decide, fun c nc => ⟨same_upd nc, c, [z], rfl, SqT.of upd_same, fun y hy => by cases List.mem_singleton.mp hy; exact zok, by rw [he]; exact fun e => nomatch e⟩⟩
            · have hpos := List.length_pos_iff.mpr he
              refine iteYd (by omega) ⟨_, rfl, _, rfl, t, _, _, _, rfl, rfl, SqT.of wt9, atI_nat (j := 1) rfl, _, rfl, ?_⟩
              unfold tNoPart
              exact slA hN9 fun c H' s' hc => ⟨s', c, u.needs.drop 1, rfl, by rw [cutV_from1] at hc; exact hc, fun y hy => okF y (List.mem_of_mem_drop hy), drop_ne he⟩
          rintro v H10 ⟨s10, c, ys, rfl, hc, oky, hney⟩
          have wl10 := s10 _ _ wl9
          have nt10 := NotTp.lst wl10
          refine ⟨_, rfl, _, rfl, l, _, _, 1, rfl, rfl, wl10, rfl, ?_⟩
          generalize hE11 : upd H10 l _ = H11
          have w11 := new_at hE11
          have m11 := mut_keep hE11
          have B11 := ((B9.same s10).keep m11 npl)
          have kD := (kC.same s10).own m11 nlH
          have wt11 := m11.tup nt10 (SqT.of (K := K) (s10 _ _ wt9))
          have hF11 := m11.tup nt10 (tup_same s10 hN9)
          refine ⟨_, rfl, _, rfl, t, _, _, _, rfl, rfl, wt11, atI_nat (j := 1) rfl, an, _, rfl, .inr hF11, _, _, rfl, rfl, _, rfl, ?_⟩
          rw [List.length_map]
          refine ite2 (fun h1 => ?_) (fun h1 => ?_)
          · have h1 := of_decide_eq_true h1
            refine ⟨_, rfl, ?_⟩
            refine take_of (z := 2) B11 (by decide) (by decide) (by omega) fun r12 H12 a12 b12 B12 k12 => ?_
            have w12 := k12 _ _ w11 npl.symm
            have wt12 := k12.tup B11.notTp wt11
            have hF12 := k12.tup B11.notTp hF11
            have kE := kD.trans k12
            have tr : ∀ {c : Addr} {xs : List V}, SqT K H9 c xs → SqT K H12 c xs := fun h => k12.tup B11.notTp (m11.tup nt10 (tup_same s10 h))
            have hg12 := ((hg9.same s10).keep m11 (NotTup.lst wl10)).keep k12 B11.notTup
            refine ⟨rfl, _, rfl, ?_⟩
            refine ite2 (fun h2 => ?_) (fun h2 => ?_)
            · refine ⟨_, rfl, _, rfl, t, _, _, _, rfl, rfl, wt12, atI_nat (j := 1) rfl, an, _, rfl, hF12, fun c2 nc2 => ?_⟩
              rw [← List.map_reverse]
              generalize hE13 : upd H12 c2 _ = H13
              have w13 := new_at hE13
              have s13 := new_same hE13 nc2
              have wl13 := s13 _ _ w12
              have nt13 := NotTp.lst wl13
              refine ⟨_, rfl, _, rfl, l, _, _, 1, rfl, rfl, wl13, rfl, ?_⟩
              generalize hE14 : upd H13 l _ = H14
              have w14 := new_at hE14
              have m14 := mut_keep hE14
              exact ⟨((B12.same s13).keep m14 npl).le (by omega), (kE.same s13).own m14 nlH, _, ⟨u.kind, u.needs.reverse, u.wants, u.bars, u.after, u.opens, u.five⟩, _, _, _, _, w14, ⟨c2, ax, ab, aa, g, rfl, m14.tup nt13 (SqT.of w13), m14.tup nt13 (tup_same s13 (tr hX9)), m14.tup nt13 (tup_same s13 (tr hB9)), m14.tup nt13 (tup_same s13 (tr hA9)), (hg12.same s13).keep m14 (NotTup.lst wl13)⟩, okV _ (fun y hy => okF y (List.mem_reverse.mp hy)), fun e => rev_ne hO.nN (by omega) (congrArg UF.needs e).symm, rfl⟩
            · exact ⟨B12.le (by omega), kE, _, ⟨u.kind, ys, u.wants, u.bars, u.after, u.opens, u.five⟩, _, _, _, _, w12, ⟨c, ax, ab, aa, g, rfl, k12.tup B11.notTp (m11.tup nt10 hc), tr hX9, tr hB9, tr hA9, hg12⟩, okV ys oky, fun e => hney (congrArg UF.needs e).symm, rfl⟩
          · exact ⟨B11.le (by omega), kD, _, ⟨u.kind, ys, u.wants, u.bars, u.after, u.opens, u.five⟩, _, _, _, _, w11, ⟨c, ax, ab, aa, g, rfl, m11.tup nt10 hc, m11.tup nt10 (tup_same s10 hX9), m11.tup nt10 (tup_same s10 hB9), m11.tup nt10 (tup_same s10 hA9), (hg9.same s10).keep m11 (NotTup.lst wl10)⟩, okV ys oky, fun e => hney (congrArg UF.needs e).symm, rfl⟩
        · have okF : ∀ x ∈ u.wants, PyData.strOk x = true := fun x hx => okU x (List.mem_append_left _ (List.mem_append_left _ (List.mem_append_right _ hx)))
          have okV : ∀ ys : List Str, (∀ y ∈ ys, PyData.strOk y = true) → UStr ⟨u.kind, u.needs, ys, u.bars, u.after, u.opens, u.five⟩ := fun ys oky => fun x hx => by
            rcases List.mem_append.mp hx with hx | hx
            · rcases List.mem_append.mp hx with hx | hx
              · rcases List.mem_append.mp hx with hx | hx
                · exact okU x (List.mem_append_left _ (List.mem_append_left _ (List.mem_append_left _ hx)))
                · exact oky x hx
              · exact okU x (List.mem_append_left _ (List.mem_append_right _ hx))
            · exact okU x (List.mem_append_right _ hx)
          refine ⟨fun v H' => Same H9 H' ∧ ∃ (c : Addr) (ys : List Str), v = .ref c ∧ SqT K H' c (ys.map V.str) ∧ (∀ y ∈ ys, PyData.strOk y = true) ∧ ys ≠ u.wants, ?_, ?_⟩
          · refine ⟨_, rfl, _, rfl, t, _, _, _, rfl, rfl, SqT.of wt9, atI_nat (j := 2) rfl, ax, _, rfl, .inr hX9, _, _, rfl, rfl, _, rfl, ?_⟩
            rw [List.length_map]
            by_cases he : u.wants = []
            · refine iteNd (by rw [he]; decide) ⟨_, rfl, by show 1 ≤ sizeLine; decide, fun c nc => ⟨same_upd nc, c, [z], rfl, SqT.of upd_same, fun y hy => by cases List.mem_singleton.mp hy; exact zok, by rw [he]; exact fun e => nomatch e⟩⟩
            · have hpos := List.length_pos_iff.mpr he
              refine iteYd (by omega) ⟨_, rfl, _, rfl, t, _, _, _, rfl, rfl, SqT.of wt9, atI_nat (j := 2) rfl, _, rfl, ?_⟩
              unfold tNoPart
              exact slA hX9 fun c H' s' hc => ⟨s', c, u.wants.drop 1, rfl, by rw [cutV_from1] at hc; exact hc, fun y hy => okF y (List.mem_of_mem_drop hy), drop_ne he⟩
          rintro v H10 ⟨s10, c, ys, rfl, hc, oky, hney⟩
          have wl10 := s10 _ _ wl9
          have nt10 := NotTp.lst wl10
          refine ⟨_, rfl, _, rfl, l, _, _, 2, rfl, rfl, wl10, rfl, ?_⟩
          generalize hE11 : upd H10 l _ = H11
          have w11 := new_at hE11
          have m11 := mut_keep hE11
          have B11 := ((B9.same s10).keep m11 npl)
          have kD := (kC.same s10).own m11 nlH
          have wt11 := m11.tup nt10 (SqT.of (K := K) (s10 _ _ wt9))
          have hF11 := m11.tup nt10 (tup_same s10 hX9)
          refine ⟨_, rfl, _, rfl, t, _, _, _, rfl, rfl, wt11, atI_nat (j := 2) rfl, ax, _, rfl, .inr hF11, _, _, rfl, rfl, _, rfl, ?_⟩
          rw [List.length_map]
          refine ite2 (fun h1 => ?_) (fun h1 => ?_)
          · have h1 := of_decide_eq_true h1
            refine ⟨_, rfl, ?_⟩
            refine take_of (z := 2) B11 (by decide) (by decide) (by omega) fun r12 H12 a12 b12 B12 k12 => ?_
            have w12 := k12 _ _ w11 npl.symm
            have wt12 := k12.tup B11.notTp wt11
            have hF12 := k12.tup B11.notTp hF11
            have kE := kD.trans k12
            have tr : ∀ {c : Addr} {xs : List V}, SqT K H9 c xs → SqT K H12 c xs := fun h => k12.tup B11.notTp (m11.tup nt10 (tup_same s10 h))
            have hg12 := ((hg9.same s10).keep m11 (NotTup.lst wl10)).keep k12 B11.notTup
            refine ⟨rfl, _, rfl, ?_⟩
            refine ite2 (fun h2 => ?_) (fun h2 => ?_)
            · refine ⟨_, rfl, _, rfl, t, _, _, _, rfl, rfl, wt12, atI_nat (j := 2) rfl, ax, _, rfl, hF12, fun c2 nc2 => ?_⟩
              rw [← List.map_reverse]
              generalize hE13 : upd H12 c2 _ = H13
              have w13 := new_at hE13
              have s13 := new_same hE13 nc2
              have wl13 := s13 _ _ w12
              have nt13 := NotTp.lst wl13
              refine ⟨_, rfl, _, rfl, l, _, _, 2, rfl, rfl, wl13, rfl, ?_⟩
              generalize hE14 : upd H13 l _ = H14
              have w14 := new_at hE14
              have m14 := mut_keep hE14
              exact ⟨((B12.same s13).keep m14 npl).le (by omega), (kE.same s13).own m14 nlH, _, ⟨u.kind, u.needs, u.wants.reverse, u.bars, u.after, u.opens, u.five⟩, _, _, _, _, w14, ⟨an, c2, ab, aa, g, rfl, m14.tup nt13 (tup_same s13 (tr hN9)), m14.tup nt13 (SqT.of w13), m14.tup nt13 (tup_same s13 (tr hB9)), m14.tup nt13 (tup_same s13 (tr hA9)), (hg12.same s13).keep m14 (NotTup.lst wl13)⟩, okV _ (fun y hy => okF y (List.mem_reverse.mp hy)), fun e => rev_ne hO.nW (by omega) (congrArg UF.wants e).symm, rfl⟩
            · exact ⟨B12.le (by omega), kE, _, ⟨u.kind, u.needs, ys, u.bars, u.after, u.opens, u.five⟩, _, _, _, _, w12, ⟨an, c, ab, aa, g, rfl, tr hN9, k12.tup B11.notTp (m11.tup nt10 hc), tr hB9, tr hA9, hg12⟩, okV ys oky, fun e => hney (congrArg UF.wants e).symm, rfl⟩
          · exact ⟨B11.le (by omega), kD, _, ⟨u.kind, u.needs, ys, u.bars, u.after, u.opens, u.five⟩, _, _, _, _, w11, ⟨an, c, ab, aa, g, rfl, m11.tup nt10 (tup_same s10 hN9), m11.tup nt10 hc, m11.tup nt10 (tup_same s10 hB9), m11.tup nt10 (tup_same s10 hA9), (hg9.same s10).keep m11 (NotTup.lst wl10)⟩, okV ys oky, fun e => hney (congrArg UF.wants e).symm, rfl⟩
        · have okF : ∀ x ∈ u.bars, PyData.strOk x = true := fun x hx => okU x (List.mem_append_left _ (List.mem_append_right _ hx))
          have okV : ∀ ys : List Str, (∀ y ∈ ys, PyData.strOk y = true) → UStr ⟨u.kind, u.needs, u.wants, ys, u.after, u.opens, u.five⟩ := fun ys oky => fun x hx => by
            rcases List.mem_append.mp hx with hx | hx
            · rcases List.mem_append.mp hx with hx | hx
              · rcases List.mem_append.mp hx with hx | hx
                · exact okU x (List.mem_append_left _ (List.mem_append_left _ (List.mem_append_left _ hx)))
                · exact okU x (List.mem_append_left _ (List.mem_append_left _ (List.mem_append_right _ hx)))
              · exact oky x hx
            · exact okU x (List.mem_append_right _ hx)
          refine ⟨fun v H' => Same H9 H' ∧ ∃ (c : Addr) (ys : List Str), v = .ref c ∧ SqT K H' c (ys.map V.str) ∧ (∀ y ∈ ys, PyData.strOk y = true) ∧ ys ≠ u.bars, ?_, ?_⟩
          · refine ⟨_, rfl, _, rfl, t, _, _, _, rfl, rfl, SqT.of wt9, atI_nat (j := 3) rfl, ab, _, rfl, .inr hB9, _, _, rfl, rfl, _, rfl, ?_⟩
            rw [List.length_map]
            by_cases he : u.bars = []
            · refine iteNd (by rw [he]; decide) ⟨_, rfl, by show 1 ≤ sizeLine; decide, fun c nc => ⟨same_upd nc, c, [z], rfl, SqT.of upd_same, fun y hy => by cases List.mem_singleton.mp hy; exact zok, by rw [he]; exact fun e => nomatch e⟩⟩
            · have hpos := List.length_pos_iff.mpr he
              refine iteYd (by omega) ⟨_, rfl, _, rfl, t, _, _, _, rfl, rfl, SqT.of wt9, atI_nat (j := 3) rfl, _, rfl, ?_⟩
              unfold tNoPart
              exact slA hB9 fun c H' s' hc => ⟨s', c, u.bars.drop 1, rfl, by rw [cutV_from1] at hc; exact hc, fun y hy => okF y (List.mem_of_mem_drop hy), drop_ne he⟩
          rintro v H10 ⟨s10, c, ys, rfl, hc, oky, hney⟩
          have wl10 := s10 _ _ wl9
          have nt10 := NotTp.lst wl10
          refine ⟨_, rfl, _, rfl, l, _, _, 3, rfl, rfl, wl10, rfl, ?_⟩
          generalize hE11 : upd H10 l _ = H11
          have w11 := new_at hE11
          have m11 := mut_keep hE11
          have B11 := ((B9.same s10).keep m11 npl)
          have kD := (kC.same s10).own m11 nlH
          have wt11 := m11.tup nt10 (SqT.of (K := K) (s10 _ _ wt9))
          have hF11 := m11.tup nt10 (tup_same s10 hB9)
          refine ⟨_, rfl, _, rfl, t, _, _, _, rfl, rfl, wt11, atI_nat (j := 3) rfl, ab, _, rfl, .inr hF11, _, _, rfl, rfl, _, rfl, ?_⟩
          rw [List.length_map]
          refine ite2 (fun h1 => ?_) (fun h1 => ?_)
          · have h1 := of_decide_eq_true h1
            refine ⟨_, rfl, ?_⟩
            refine take_of (z := 2) B11 (by decide) (by decide) (by omega) fun r12 H12 a12 b12 B12 k12 => ?_
            have w12 := k12 _ _ w11 npl.symm
            have wt12 := k12.tup B11.notTp wt11
            have hF12 := k12.tup B11.notTp hF11
            have kE := kD.trans k12
            have tr : ∀ {c : Addr} {xs : List V}, SqT K H9 c xs → SqT K H12 c xs := fun h => k12.tup B11.notTp (m11.tup nt10 (tup_same s10 h))
            have hg12 := ((hg9.same s10).keep m11 (NotTup.lst wl10)).keep k12 B11.notTup
            refine ⟨rfl, _, rfl, ?_⟩
            refine ite2 (fun h2 => ?_) (fun h2 => ?_)
            · refine ⟨_, rfl, _, rfl, t, _, _, _, rfl, rfl, wt12, atI_nat (j := 3) rfl, ab, _, rfl, hF12, fun c2 nc2 => ?_⟩
              rw [← List.map_reverse]
              generalize hE13 : upd H12 c2 _ = H13
              have w13 := new_at hE13
              have s13 := new_same hE13 nc2
              have wl13 := s13 _ _ w12
              have nt13 := NotTp.lst wl13
              refine ⟨_, rfl, _, rfl, l, _, _, 3, rfl, rfl, wl13, rfl, ?_⟩
              generalize hE14 : upd H13 l _ = H14
              have w14 := new_at hE14
              have m14 := mut_keep hE14
              exact ⟨((B12.same s13).keep m14 npl).le (by omega), (kE.same s13).own m14 nlH, _, ⟨u.kind, u.needs, u.wants, u.bars.reverse, u.after, u.opens, u.five⟩, _, _, _, _, w14, ⟨an, ax, c2, aa, g, rfl, m14.tup nt13 (tup_same s13 (tr hN9)), m14.tup nt13 (tup_same s13 (tr hX9)), m14.tup nt13 (SqT.of w13), m14.tup nt13 (tup_same s13 (tr hA9)), (hg12.same s13).keep m14 (NotTup.lst wl13)⟩, okV _ (fun y hy => okF y (List.mem_reverse.mp hy)), fun e => rev_ne hO.nB (by omega) (congrArg UF.bars e).symm, rfl⟩
            · exact ⟨B12.le (by omega), kE, _, ⟨u.kind, u.needs, u.wants, ys, u.after, u.opens, u.five⟩, _, _, _, _, w12, ⟨an, ax, c, aa, g, rfl, tr hN9, tr hX9, k12.tup B11.notTp (m11.tup nt10 hc), tr hA9, hg12⟩, okV ys oky, fun e => hney (congrArg UF.bars e).symm, rfl⟩
          · exact ⟨B11.le (by omega), kD, _, ⟨u.kind, u.needs, u.wants, ys, u.after, u.opens, u.five⟩, _, _, _, _, w11, ⟨an, ax, c, aa, g, rfl, m11.tup nt10 (tup_same s10 hN9), m11.tup nt10 (tup_same s10 hX9), m11.tup nt10 hc, m11.tup nt10 (tup_same s10 hA9), (hg9.same s10).keep m11 (NotTup.lst wl10)⟩, okV ys oky, fun e => hney (congrArg UF.bars e).symm, rfl⟩
        · have okF : ∀ x ∈ u.after, PyData.strOk x = true := fun x hx => okU x (List.mem_append_right _ hx)
          have okV : ∀ ys : List Str, (∀ y ∈ ys, PyData.strOk y = true) → UStr ⟨u.kind, u.needs, u.wants, u.bars, ys, u.opens, u.five⟩ := fun ys oky => fun x hx => by
            rcases List.mem_append.mp hx with hx | hx
            · rcases List.mem_append.mp hx with hx | hx
              · rcases List.mem_append.mp hx with hx | hx
                · exact okU x (List.mem_append_left _ (List.mem_append_left _ (List.mem_append_left _ hx)))
                · exact okU x (List.mem_append_left _ (List.mem_append_left _ (List.mem_append_right _ hx)))
              · exact okU x (List.mem_append_left _ (List.mem_append_right _ hx))
            · exact oky x hx
          refine ⟨fun v H' => Same H9 H' ∧ ∃ (c : Addr) (ys : List Str), v = .ref c ∧ SqT K H' c (ys.map V.str) ∧ (∀ y ∈ ys, PyData.strOk y = true) ∧ ys ≠ u.after, ?_, ?_⟩
          · refine ⟨_, rfl, _, rfl, t, _, _, _, rfl, rfl, SqT.of wt9, atI_nat (j := 4) rfl, aa, _, rfl, .inr hA9, _, _, rfl, rfl, _, rfl, ?_⟩
            rw [List.length_map]
            by_cases he : u.after = []
            · refine iteNd (by rw [he]; decide) ⟨_, rfl, by show 1 ≤ sizeLine; decide, fun c nc => ⟨same_upd nc, c, [z], rfl, SqT.of upd_same, fun y hy => by cases List.mem_singleton.mp hy; exact zok, by rw [he]; exact fun e => nomatch e⟩⟩
            · have hpos := List.length_pos_iff.mpr he
              refine iteYd (by omega) ⟨_, rfl, _, rfl, t, _, _, _, rfl, rfl, SqT.of wt9, atI_nat (j := 4) rfl, _, rfl, ?_⟩
              unfold tNoPart
              exact slA hA9 fun c H' s' hc => ⟨s', c, u.after.drop 1, rfl, by rw [cutV_from1] at hc; exact hc, fun y hy => okF y (List.mem_of_mem_drop hy), drop_ne he⟩
          rintro v H10 ⟨s10, c, ys, rfl, hc, oky, hney⟩
          have wl10 := s10 _ _ wl9
          have nt10 := NotTp.lst wl10
          refine ⟨_, rfl, _, rfl, l, _, _, 4, rfl, rfl, wl10, rfl, ?_⟩
          generalize hE11 : upd H10 l _ = H11
          have w11 := new_at hE11
          have m11 := mut_keep hE11
          have B11 := ((B9.same s10).keep m11 npl)
          have kD := (kC.same s10).own m11 nlH
          have wt11 := m11.tup nt10 (SqT.of (K := K) (s10 _ _ wt9))
          have hF11 := m11.tup nt10 (tup_same s10 hA9)
          refine ⟨_, rfl, _, rfl, t, _, _, _, rfl, rfl, wt11, atI_nat (j := 4) rfl, aa, _, rfl, .inr hF11, _, _, rfl, rfl, _, rfl, ?_⟩
          rw [List.length_map]
          refine ite2 (fun h1 => ?_) (fun h1 => ?_)
          · have h1 := of_decide_eq_true h1
            refine ⟨_, rfl, ?_⟩
            refine take_of (z := 2) B11 (by decide) (by decide) (by omega) fun r12 H12 a12 b12 B12 k12 => ?_
            have w12 := k12 _ _ w11 npl.symm
            have wt12 := k12.tup B11.notTp wt11
            have hF12 := k12.tup B11.notTp hF11
            have kE := kD.trans k12
            have tr : ∀ {c : Addr} {xs : List V}, SqT K H9 c xs → SqT K H12 c xs := fun h => k12.tup B11.notTp (m11.tup nt10 (tup_same s10 h))
            have hg12 := ((hg9.same s10).keep m11 (NotTup.lst wl10)).keep k12 B11.notTup
            refine ⟨rfl, _, rfl, ?_⟩
            refine ite2 (fun h2 => ?_) (fun h2 => ?_)
            · refine ⟨_, rfl, _, rfl, t, _, _, _, rfl, rfl, wt12, atI_nat (j := 4) rfl, aa, _, rfl, hF12, fun c2 nc2 => ?_⟩
              rw [← List.map_reverse]
              generalize hE13 : upd H12 c2 _ = H13
              have w13 := new_at hE13
              have s13 := new_same hE13 nc2
              have wl13 := s13 _ _ w12
              have nt13 := NotTp.lst wl13
              refine ⟨_, rfl, _, rfl, l, _, _, 4, rfl, rfl, wl13, rfl, ?_⟩
              generalize hE14 : upd H13 l _ = H14
              have w14 := new_at hE14
              have m14 := mut_keep hE14
              exact ⟨((B12.same s13).keep m14 npl).le (by omega), (kE.same s13).own m14 nlH, _, ⟨u.kind, u.needs, u.wants, u.bars, u.after.reverse, u.opens, u.five⟩, _, _, _, _, w14, ⟨an, ax, ab, c2, g, rfl, m14.tup nt13 (tup_same s13 (tr hN9)), m14.tup nt13 (tup_same s13 (tr hX9)), m14.tup nt13 (tup_same s13 (tr hB9)), m14.tup nt13 (SqT.of w13), (hg12.same s13).keep m14 (NotTup.lst wl13)⟩, okV _ (fun y hy => okF y (List.mem_reverse.mp hy)), fun e => rev_ne hO.nA (by omega) (congrArg UF.after e).symm, rfl⟩
            · exact ⟨B12.le (by omega), kE, _, ⟨u.kind, u.needs, u.wants, u.bars, ys, u.opens, u.five⟩, _, _, _, _, w12, ⟨an, ax, ab, c, g, rfl, tr hN9, tr hX9, tr hB9, k12.tup B11.notTp (m11.tup nt10 hc), hg12⟩, okV ys oky, fun e => hney (congrArg UF.after e).symm, rfl⟩
          · exact ⟨B11.le (by omega), kD, _, ⟨u.kind, u.needs, u.wants, u.bars, ys, u.opens, u.five⟩, _, _, _, _, w11, ⟨an, ax, ab, c, g, rfl, m11.tup nt10 (tup_same s10 hN9), m11.tup nt10 (tup_same s10 hX9), m11.tup nt10 (tup_same s10 hB9), m11.tup nt10 hc, (hg9.same s10).keep m11 (NotTup.lst wl10)⟩, okV ys oky, fun e => hney (congrArg UF.after e).symm, rfl⟩
      refine ⟨_, rfl, rfl, _, rfl, ?_⟩
      refine ite2 (fun h5' => ?_) (fun h5' => ?_)
      · refine ⟨_, rfl, by show 2 ≤ sizeLine; decide, fun tp ntp => ?_⟩
        generalize hE10 : upd H9 tp _ = H10
        have w10 := new_at hE10
        have s10 := new_same hE10 ntp
        have wl10 := s10 _ _ wl9
        refine ⟨tp, _, rfl, SqT.of w10, rfl, _, _, rfl, _, rfl, l, _, _, 0, rfl, rfl, wl10, rfl, ?_⟩
        generalize hE11 : upd H10 l _ = H11
        have w11 := new_at hE11
        have m11 := mut_keep hE11
        refine ⟨_, _, rfl, _, rfl, l, _, _, 5, rfl, rfl, w11, rfl, rfl, ?_⟩
        generalize hE12 : upd H11 l _ = H12
        have w12 := new_at hE12
        have m12 := (Kp.trans m11 (mut_keep hE12))
        have nt10 := NotTp.lst wl10
        refine ⟨((B9.same s10).keep m12 npl).le (by omega), (kC.same s10).own m12 nlH, _, ⟨Str.ofString "door", u.needs, u.wants, u.bars, u.after, some z, u.five⟩, _, _, _, _, w12, ⟨an, ax, ab, aa, g, rfl, m12.tup nt10 (tup_same s10 hN9), m12.tup nt10 (tup_same s10 hX9), m12.tup nt10 (tup_same s10 hB9), m12.tup nt10 (tup_same s10 hA9), (hg9.same s10).keep m12 (NotTup.lst wl10)⟩, okU, fun e => ?_, rfl⟩
        have h1 := hoU
        rw [show u.opens = some z from congrArg UF.opens e] at h1
        exact hz h1
      · refine ⟨fun v H' => Same H9 H' ∧ ∃ o, FiveAt H' v o ∧ o ≠ u.five, ?_, ?_⟩
        · refine ⟨_, rfl, t, _, _, _, rfl, rfl, SqT.of wt9, atI_nat (j := 6) rfl, rfl, _, rfl, ?_⟩
          obtain ⟨o1, ho1⟩ : ∃ o, u.five = o := ⟨_, rfl⟩
          rw [ho1] at hg9
          rcases o1 with _ | ⟨f, m, tp, br, sn⟩
          · cases (show g = .non from hg9)
            refine iteYd rfl ⟨by show 5 ≤ sizeLine; decide, fun c nc => ⟨same_upd nc, some (1, 2, 3, 4, 5), ⟨c, rfl, upd_same, by constructor <;> decide⟩, by rw [ho1]; exact fun e => nomatch e⟩⟩
          · obtain ⟨v5, rfl, _⟩ := hg9
            exact iteNd (fun e => nomatch e) ⟨Same.refl _, none, rfl, by rw [ho1]; exact fun e => nomatch e⟩
        rintro v H10 ⟨s10, o, ho, hne⟩
        have wl10 := s10 _ _ wl9
        refine ⟨_, rfl, l, _, _, 6, rfl, rfl, wl10, rfl, ?_⟩
        generalize hE11 : upd H10 l _ = H11
        have w11 := new_at hE11
        have m11 := mut_keep hE11
        have nt10 := NotTp.lst wl10
        exact ⟨((B9.same s10).keep m11 npl).le (by omega), (kC.same s10).own m11 nlH, _, ⟨u.kind, u.needs, u.wants, u.bars, u.after, u.opens, o⟩, _, _, _, _, w11, ⟨an, ax, ab, aa, v, rfl, m11.tup nt10 (tup_same s10 hN9), m11.tup nt10 (tup_same s10 hX9), m11.tup nt10 (tup_same s10 hB9), m11.tup nt10 (tup_same s10 hA9), ho.keep m11 (NotTup.lst wl10)⟩, okU, fun e => hne (congrArg UF.five e).symm, rfl⟩
    · rintro σ H10 ⟨B10, k10, vs, u', y4, y5, y6, y7, wl10, hV10, okU', hne, rfl⟩
      refine ⟨_, rfl, _, rfl, l, _, rfl, .inl ⟨SqL.of wl10, fun t2 nt2 => ?_⟩⟩
      generalize hE11 : upd H10 t2 _ = H11
      have w11 := new_at hE11
      have s11 := new_same hE11 nt2
      refine ⟨by show 2 ≤ sizeLine; decide, fun tt ntt => ?_⟩
      generalize hE12 : upd H11 tt _ = H12
      have w12 := new_at hE12
      have s12 := s11.trans (new_same hE12 ntt)
      exact q tt w (.ref t2) u' H12 w12 ((hV10.same s12).s (SqT.of (new_same hE12 ntt _ _ w11))) okU' (by have := hw.2.2; omega) (fun e => hne e.2) ((k10.same s11).free ntt ((B10.same s11).ne ntt).symm) (B10.same s12) (k10.same s12)

/-! ### the law -/
section
variable {H : Hp} {p1 p2 : Addr} {w1 w2 : Str} {u1 u2 : UF} {Q : VK}
theorem eqU (T : Txt K mg) (h1 : UnitAt K H p1 w1 u1) (h2 : UnitAt K H p2 w2 u2) (o1 : UStr u1) (o2 : UStr u2) (q : Q (.bl (decide (w1 = w2 ∧ u1 = u2))) H) : UO.rEqO K (He.ga K "Unit") (sp_Unit_eq K) E0 (.ref p1) (.ref p2) H Q := by
  have h1' := h1
  have h2' := h2
  obtain ⟨d1, _, _, _, _, _, e1, _⟩ := h1
  obtain ⟨d2, _, _, _, _, _, e2, _⟩ := h2
  exact ⟨p1, d1, _, _, rfl, e1, T.ix_Unit.ty T.cl_Unit e2, UO.first_self _ _, p1, w1, u1, _, rfl, h1', o1, .inl ⟨p2, w2, u2, rfl, h2', o2, _, rfl, q⟩⟩
theorem neU (T : Txt K mg) (h1 : UnitAt K H p1 w1 u1) (h2 : UnitAt K H p2 w2 u2) (o1 : UStr u1) (o2 : UStr u2) (q : Q (.bl (!decide (w1 = w2 ∧ u1 = u2))) H) : UO.rNeO K (He.ga K "Unit") (sp_Unit_eq K) E0 (.ref p1) (.ref p2) H Q := by
  have h1' := h1
  have h2' := h2
  obtain ⟨d1, _, _, _, _, _, e1, _⟩ := h1
  obtain ⟨d2, _, _, _, _, _, e2, _⟩ := h2
  exact ⟨p1, d1, _, _, rfl, e1, T.ix_Unit.ty T.cl_Unit e2, UO.first_self _ _, p1, w1, u1, _, rfl, h1', o1, .inl ⟨p2, w2, u2, rfl, h2', o2, _, rfl, q⟩⟩
/-- a thing that is no unit: plain, or a rule -/
def Odd (K : PySem.W.Frag) (H : Hp) (y : V) : Prop := (∃ Ty, UO.plainTy H K y Ty) ∨ ∃ (r : Addr) (f m t b s : Int), y = .ref r ∧ RuleAt K H r f m t b s
theorem spOdd {y : V} {E : XK} (h1 : UnitAt K H p1 w1 u1) (o1 : UStr u1) (hy : Odd K H y) {Q' : VK} (q : Q' (.bl false) H) : sp_Unit_eq K [.ref p1, y] H Q' E := by
  rcases hy with ⟨Ty, pt⟩ | ⟨r, f, m, t, b, s, rfl, hr⟩
  · exact ⟨p1, w1, u1, y, rfl, h1, o1, .inr (.inl ⟨Ty, pt, q⟩)⟩
  · exact ⟨p1, w1, u1, _, rfl, h1, o1, .inr (.inr ⟨r, f, m, t, b, s, rfl, hr, q⟩)⟩
theorem tyOdd (T : Txt K mg) {y : V} (hy : Odd K H y) : ∃ t, TyX K H y t ∧ PySem.W.notFirst K (He.ga K "Unit") t = true := by
  rcases hy with ⟨Ty, pt⟩ | ⟨r, f, m, t, b, s, rfl, dr, hr⟩
  · obtain ⟨ty, hT⟩ := UO.plain_ty pt
    exact ⟨_, ty, T.ix_Unit.first hT⟩
  · exact ⟨_, T.ix_Rule.ty T.cl_Rule hr, T.px_Unit_Rule.fst⟩
theorem eqOdd (T : Txt K mg) {y : V} (h1 : UnitAt K H p1 w1 u1) (o1 : UStr u1) (hy : Odd K H y) (q : Q (.bl false) H) : UO.rEqO K (He.ga K "Unit") (sp_Unit_eq K) E0 (.ref p1) y H Q := by
  have h1' := h1
  obtain ⟨d1, _, _, _, _, _, e1, _⟩ := h1
  obtain ⟨t, ty, hf⟩ := tyOdd T hy
  exact ⟨p1, d1, _, t, rfl, e1, ty, hf, spOdd h1' o1 hy ⟨false, rfl, q⟩⟩
theorem neOdd (T : Txt K mg) {y : V} (h1 : UnitAt K H p1 w1 u1) (o1 : UStr u1) (hy : Odd K H y) (q : Q (.bl true) H) : UO.rNeO K (He.ga K "Unit") (sp_Unit_eq K) E0 (.ref p1) y H Q := by
  have h1' := h1
  obtain ⟨d1, _, _, _, _, _, e1, _⟩ := h1
  obtain ⟨t, ty, hf⟩ := tyOdd T hy
  exact ⟨p1, d1, _, t, rfl, e1, ty, hf, spOdd h1' o1 hy ⟨false, rfl, q⟩⟩
theorem oddEq (T : Txt K mg) {y : V} (h1 : UnitAt K H p1 w1 u1) (o1 : UStr u1) (hy : Odd K H y) (q : Q (.bl false) H) : UO.rOr (UO.rEqR K (He.ga K "Unit") (sp_Unit_eq K) E0) (UO.rEqO K (He.ga K "Rule") (sp_Rule_eq K) E0) y (.ref p1) H Q := by
  have h1' := h1
  obtain ⟨d1, _, _, _, _, _, e1, _⟩ := h1
  rcases id hy with ⟨Ty, pt⟩ | ⟨r, f, m, t, b, s, rfl, dr, hr⟩
  · obtain ⟨ty, hT⟩ := UO.plain_ty pt
    exact .inl ⟨p1, d1, _, Ty, rfl, e1, pt, T.ix_Unit.sub _ hT, spOdd h1' o1 hy ⟨false, rfl, q⟩⟩
  · exact .inr ⟨r, dr, _, _, rfl, hr, T.ix_Unit.ty T.cl_Unit e1, T.px_Rule_Unit.fst, r, f, m, t, b, s, _, rfl, ⟨dr, hr⟩, .inr (.inr ⟨_, T.ix_Unit.ty T.cl_Unit e1, T.px_Unit_Rule.kit, false, rfl, q⟩)⟩
end
def sp_law (K : PySem.W.Frag) : Sp := fun vs H Q _ => ∃ (a : Addr) (ns : List Int), vs = [.ref a] ∧ SqL K H a (ns.map V.int) ∧ ns.length ≤ 63 ∧ ∀ H', Q (.bl true) H'
theorem ok_law (T : Txt K mg) : FnOk P w K mg base CX0 11 (He.fAd K ("law", none)) T.d_law ["_law_script"] (sp_law K) := by
  refine T.F_law.ok sc_law (fun vs H Q E h => ?_) (fun cdv A outer s H vs Q E hr h => ?_)
  · obtain ⟨a, ns, rfl, _⟩ := h
    rfl
  · obtain ⟨a, ns, rfl, hS, hl, q⟩ := h
    refine ⟨_, PSs.nox (pss_cons (ps_for PassesOwn.never rfl (pi_range1 (by rfl) T.n_range (pa_cons (pe_callB (id := "max")  (call_max2 rfl) (by rfl) T.n_max (by decide +kernel) (pa_cons pe_int (pa_cons (pe_callB (id := "min")  (call_min2 rfl) (by rfl) T.n_min (by decide +kernel) (pa_cons pe_int (pa_cons (pe_callB (id := "len")  call_len_seq (by rfl) T.n_len (by decide +kernel) (pa_cons (pv 0) pa_nil)) pa_nil))) pa_nil))) pa_nil)) (pg_name (i := 1) sc_law.nd rfl (Or.inl rfl))
      (pss_cons (ps_set (i := 2) sc_law.nd rfl (Or.inl rfl) (pe_call (ok_law_bag T) (hr.mono (by decide)) (by rfl) T.m_law_bag T.F_law_bag.kp T.b_law_bag .nil pass0 (pa_cons (pv 0) (pa_cons (pv 1) pa_nil))))
      (pss_cons (ps_set (i := 3) sc_law.nd rfl (Or.inl rfl) (pe_call (ok_law_facts T) (hr.mono (by decide)) (by rfl) T.m_law_facts T.F_law_facts.kp T.b_law_facts .nil pass0 (pa_cons (pv 2) (pa_cons pe_int pa_nil))))
      (pss_cons (ps_if (pt_not (pt_val (pe_call (ok_law_fields_right T) (hr.mono (by decide)) (by rfl) T.m_law_fields_right T.F_law_fields_right.kp T.b_law_fields_right .nil pass0 (pa_cons (pe_makeK T.mk_Unit (ok_Unit_init T) (hr.mono (by decide)) (by rfl) T.m_Unit T.kb_Unit_init_2_none.choose_spec pass0 (pa_cons pe_str pa_nil) pk_nil) (pa_cons pe_str (pa_cons (pe_tup (pa_cons pe_str (pa_cons (pe_tup pa_nil) (pa_cons (pe_tup pa_nil) (pa_cons (pe_tup pa_nil) (pa_cons (pe_tup pa_nil) (pa_cons pe_non (pa_cons pe_non pa_nil)))))))) pa_nil))))))
      (pss_one (ps_ret pe_bl))
      pss_nil)
      (pss_one (ps_lock (ps_for PassesOwn.never rfl (pi_keys (pv 3)) (pg_name (i := 4) sc_law.nd rfl (Or.inl rfl))
      (pss_cons (ps_par (by rfl) sc_law.nd (i := 5) (j := 6) rfl rfl (by decide) rfl rfl (pa_cons (pe_call (ok_law_unit T) (hr.mono (by decide)) (by rfl) T.m_law_unit T.F_law_unit.kp T.b_law_unit .nil pass0 (pa_cons (pv 4) (pa_cons (pv 3) pa_nil))) (pa_cons (pe_call (ok_law_made_anew T) (hr.mono (by decide)) (by rfl) T.m_law_made_anew T.F_law_made_anew.kp T.b_law_made_anew .nil pass0 (pa_cons (pv 4) (pa_cons (pe_dget (hu_of hr) (pv 3) (pv 4) (fun _ _ => rfl)) pa_nil))) pa_nil)) (by rfl))
      (pss_cons (ps_asg (pe_call (ok_law_bent T) (hr.mono (by decide)) (by rfl) T.m_law_bent T.F_law_bent.kp T.b_law_bent .nil pass0 (pa_cons (pv 2) (pa_cons (pv 4) (pa_cons (pe_dget (hu_of hr) (pv 3) (pv 4) (fun _ _ => rfl)) pa_nil)))) (pg_tup rfl (pgs_cons (pg_name (i := 7) sc_law.nd rfl (Or.inl rfl)) (pgs_cons (pg_name (i := 8) sc_law.nd rfl (Or.inl rfl)) pgs_nil))))
      (pss_cons (ps_set (i := 9) sc_law.nd rfl (Or.inl rfl) (pe_call (ok_law_unit T) (hr.mono (by decide)) (by rfl) T.m_law_unit T.F_law_unit.kp T.b_law_unit .nil pass0 (pa_cons (pv 7) (pa_cons (pe_disp (pps_cons (pv 7) (pv 8) pps_nil) rfl rfl (by decide) (by decide)) pa_nil))))
      (pss_cons (ps_if (PW.pt (pw_or (pt_not (pt_val (pe_call (ok_law_fields_right T) (hr.mono (by decide)) (by rfl) T.m_law_fields_right T.F_law_fields_right.kp T.b_law_fields_right .nil pass0 (pa_cons (pv 5) (pa_cons (pv 4) (pa_cons (pe_dget (hu_of hr) (pv 3) (pv 4) (fun _ _ => rfl)) pa_nil)))))) (pw_or1 (pt_not (pt_val (pe_call (ok_law_fields_right T) (hr.mono (by decide)) (by rfl) T.m_law_fields_right T.F_law_fields_right.kp T.b_law_fields_right .nil pass0 (pa_cons (pv 6) (pa_cons (pv 4) (pa_cons (pe_dget (hu_of hr) (pv 3) (pv 4) (fun _ _ => rfl)) pa_nil)))))))))
      (pss_one (ps_ret pe_bl))
      pss_nil)
      (pss_cons (ps_set (i := 10) sc_law.nd rfl (Or.inl rfl) (pe_lst (pa_cons (pe_cmpR (UO.op_rc (UO.rc_left (ok_Unit_eq T) T.me_Unit_eq.at_ T.me_Unit_eq.fn T.b_Unit_eq pass0) (hr.mono (by decide))) (pv 5) (pv 6) (nomark _)) (pa_cons (pe_cmpR (UO.op_rc (UO.rc_left (ok_Unit_eq T) T.me_Unit_eq.at_ T.me_Unit_eq.fn T.b_Unit_eq pass0) (hr.mono (by decide))) (pv 6) (pv 5) (nomark _)) (pa_cons (pe_cmpR (UO.op_in1 (UO.RcO.ap (UO.rc_left (ok_Unit_eq T) T.me_Unit_eq.at_ T.me_Unit_eq.fn T.b_Unit_eq pass0)) (hr.mono (by decide))) (pv 5) (pe_lst (pa_cons (pv 6) pa_nil)) (by rfl)) (pa_cons (pe_cmpR (UO.op_rc (UO.rc_tup2 (UO.RcO.ap (UO.rc_left (ok_Unit_eq T) T.me_Unit_eq.at_ T.me_Unit_eq.fn T.b_Unit_eq pass0))) (hr.mono (by decide))) (pe_tup (pa_cons pe_int (pa_cons (pv 5) pa_nil))) (pe_tup (pa_cons pe_int (pa_cons (pv 6) pa_nil))) (nomark _)) pa_nil))))))
      (pss_cons (ps_if (PW.pt (pw_or (pt_cmpR (op_neD hr.units) (pv 10) (pe_op op_rep (pe_lst (pa_cons pe_bl pa_nil)) pe_int) (nomark _)) (pw_or1 (pt_cmpR (UO.op_neO (ok_Unit_eq T) T.me_Unit_eq.at_ T.me_Unit_eq.fn T.b_Unit_eq pass0 T.ix_Unit.ne T.ix_Unit.mro (hr.mono (by decide))) (pv 5) (pv 6) (nomark _)))))
      (pss_one (ps_ret pe_bl))
      pss_nil)
      (pss_cons (ps_if (pt_cmpR (op_neD hr.units) (pe_lst (pa_cons (pe_cmpR (UO.op_rc (UO.rc_left (ok_Unit_eq T) T.me_Unit_eq.at_ T.me_Unit_eq.fn T.b_Unit_eq pass0) (hr.mono (by decide))) (pv 5) (pv 9) (nomark _)) (pa_cons (pe_cmpR (UO.op_rc (UO.rc_left (ok_Unit_eq T) T.me_Unit_eq.at_ T.me_Unit_eq.fn T.b_Unit_eq pass0) (hr.mono (by decide))) (pv 9) (pv 5) (nomark _)) (pa_cons (pe_cmpR (UO.op_in1 (UO.RcO.ap (UO.rc_left (ok_Unit_eq T) T.me_Unit_eq.at_ T.me_Unit_eq.fn T.b_Unit_eq pass0)) (hr.mono (by decide))) (pv 5) (pe_lst (pa_cons (pv 9) pa_nil)) (by rfl)) (pa_cons (pe_cmpR (UO.op_neO (ok_Unit_eq T) T.me_Unit_eq.at_ T.me_Unit_eq.fn T.b_Unit_eq pass0 T.ix_Unit.ne T.ix_Unit.mro (hr.mono (by decide))) (pv 9) (pv 6) (nomark _)) pa_nil))))) (pe_lst (pa_cons pe_bl (pa_cons pe_bl (pa_cons pe_bl (pa_cons pe_bl pa_nil))))) (nomark _))
      (pss_one (ps_ret pe_bl))
      pss_nil)
      (pss_cons (ps_set (i := 11) sc_law.nd rfl (Or.inl rfl) (pe_ix ix_list (pe_lst (pa_cons pe_non (pa_cons (pv 4) (pa_cons (pe_dget (hu_of hr) (pv 3) (pv 4) (fun _ _ => rfl)) (pa_cons (pe_lst (pa_cons (pv 4) pa_nil)) (pa_cons pe_bl (pa_cons (pe_fld (pv 5) rfl) pa_nil))))))) (pe_call (ok_law_take T) (hr.mono (by decide)) (by rfl) T.m_law_take T.F_law_take.kp T.b_law_take .nil pass0 (pa_cons (pv 2) (pa_cons pe_int pa_nil))) (fun _ _ => rfl)))
      (pss_one (ps_if (PW.pt (pw_or (pt_cmpR (UO.op_rc (UO.rc_left (ok_Unit_eq T) T.me_Unit_eq.at_ T.me_Unit_eq.fn T.b_Unit_eq pass0) (hr.mono (by decide))) (pv 5) (pv 11) (nomark _)) (pw_or (pt_cmpR (UO.op_or (UO.op_rc (UO.rc_right (ok_Unit_eq T) T.me_Unit_eq.at_ T.me_Unit_eq.fn T.b_Unit_eq pass0) (hr.mono (by decide))) (UO.op_rc (UO.rc_left (ok_Rule_eq T) T.me_Rule_eq.at_ T.me_Rule_eq.fn T.b_Rule_eq pass0) (hr.mono (by decide)))) (pv 11) (pv 5) (nomark _)) (pw_or (pt_not (pt_cmpR (UO.op_neO (ok_Unit_eq T) T.me_Unit_eq.at_ T.me_Unit_eq.fn T.b_Unit_eq pass0 T.ix_Unit.ne T.ix_Unit.mro (hr.mono (by decide))) (pv 5) (pv 11) (nomark _))) (pw_or1 (pt_cmpR op_ne (pe_callB (id := "repr")  (UO.call_reprO (ok_Unit_repr T) T.me_Unit_repr.at_ T.me_Unit_repr.fn T.b_Unit_repr pass0 (hr.mono (by decide))) (by rfl) T.n_repr (by decide +kernel) (pa_cons (pv 5) pa_nil)) (pe_op op_add_str (pe_op op_add_str pe_str (pv 4)) pe_str) (nomark _)))))))
      (pss_one (ps_ret pe_bl))
      pss_nil)))))))))))))))))
      (pss_one (ps_ret pe_bl))), ?_⟩
    refine ⟨_, rfl, a, _, rfl, .inl hS, _, _, rfl, _, _, rfl, _, rfl, ?_, ?_, for_range (lo := 0) (fun i σ H' => Same H H' ∧ ∃ y1 y2 y3 y4 y5 y6 y7 y8 y9 y10 y11, σ = [some (.ref a), y1, y2, y3, y4, y5, y6, y7, y8, y9, y10, y11]) ⟨Same.refl H, _, _, _, _, _, _, _, _, _, _, _, rfl⟩ ?_ ?_⟩
    · split <;> split <;> omega
    · split <;> split <;> omega
    · rintro i σ H1 hi ⟨s1, y1, y2, y3, y4, y5, y6, y7, y8, y9, y10, y11, rfl⟩
      have hi9 : i < 8 := by
        rw [List.length_map] at hi
        revert hi
        split <;> split <;> omega
      have hS1 := s1.seq hS
      refine ⟨_, rfl, _, rfl, a, ns, i, by rw [Int.zero_add]; rfl, hS1, by omega, fun p H2 np s2 B2 => ?_⟩
      have npH : H p = none := s1.free np
      refine ⟨_, rfl, p, 6, 0, rfl, B2, by omega, by decide, by decide, fun xs ss us kvs d H3 hus hnd hnm hx0 hx6 hsn hsm hsl huo hfa nd wd B3 k3 => ?_⟩
      have S3 : Same H H3 := Same.own (s1.trans s2) k3 npH
      have ndH : H d = none := (s1.trans s2).free nd
      have npd : p ≠ d := B2.ne nd
      -- Unit('a')
      refine ⟨rfl, rfl, fun pa da npa nda nea => ?_⟩
      refine ⟨pa, da, _, _, _, _, _, _, _, _, rfl, upd_same, fun H4 wpa kpa => ⟨rfl, ?_⟩⟩
      have s4 : Same H3 H4 := Same.made npa nda fun b o e n => kpa b o e n
      refine ⟨by show 0 ≤ sizeLine; decide, fun e1 ne1 => ?_⟩
      generalize hE5 : upd H4 e1 _ = H5
      have we1 : H5 e1 = some (.tup (([] : List Str).map V.str)) := new_at hE5
      have s5 := new_same hE5 ne1
      refine ⟨by show 0 ≤ sizeLine; decide, fun e2 ne2 => ?_⟩
      generalize hE6 : upd H5 e2 _ = H6
      have we2 : H6 e2 = some (.tup (([] : List Str).map V.str)) := new_at hE6
      have s6 := new_same hE6 ne2
      refine ⟨by show 0 ≤ sizeLine; decide, fun e3 ne3 => ?_⟩
      generalize hE7 : upd H6 e3 _ = H7
      have we3 : H7 e3 = some (.tup (([] : List Str).map V.str)) := new_at hE7
      have s7 := new_same hE7 ne3
      refine ⟨by show 0 ≤ sizeLine; decide, fun e4 ne4 => ?_⟩
      generalize hE8 : upd H7 e4 _ = H8
      have we4 : H8 e4 = some (.tup (([] : List Str).map V.str)) := new_at hE8
      have s8 := new_same hE8 ne4
      refine ⟨by show 7 ≤ sizeLine; decide, fun e5 ne5 => ?_⟩
      generalize hE9 : upd H8 e5 _ = H9
      have we5 := new_at hE9
      have s9 := new_same hE9 ne5
      have s49 : Same H4 H9 := (((s5.trans s6).trans s7).trans s8).trans s9
      have s39 := s4.trans s49
      let uA : UF := ⟨Str.ofString "work", [], [], [], [], none, none⟩
      have UA : UnitAt K H9 pa (Str.ofString "a") uA := ⟨da, _, _, _, _, .non, s49 _ _ wpa, T.e0_Unit_init_needs H9, T.e0_Unit_init_wants H9, T.e0_Unit_init_bars H9, T.e0_Unit_init_after H9, rfl⟩
      have FA : FactAt H9 (.ref e5) uA := ⟨e5, e1, e2, e3, e4, .non, rfl, we5, s9 _ _ (s8 _ _ (s7 _ _ (s6 _ _ we1))), s9 _ _ (s8 _ _ (s7 _ _ we2)), s9 _ _ (s8 _ _ we3), s9 _ _ we4, rfl⟩
      refine ⟨pa, _, _, uA, rfl, UA, FA, (fun x hx => nomatch hx), fun H10 s10 => ⟨_, rfl, iteF ?_⟩⟩
      have s310 := s39.trans s10
      have wd10 := s310 _ _ wd
      -- for word in facts
      refine ⟨d, _, wd10, trivial, fun od => ?_⟩
      generalize hE11 : upd H10 d _ = H11
      have wd11 := new_at hE11
      have m11 := mut_keep hE11
      have S11 : Same H H11 := Same.own (S3.trans s310) m11 ndH
      refine ⟨_, rfl, d, od, rfl, .inl ⟨kvs, wd11, ?_⟩⟩
      refine for_it walk_keys (fun j σ H' => Bag (2000 + 20 * j) H' p ∧ Same H H' ∧ H' d = some (.frz od (.dK kvs)) ∧ FactsAt H' kvs us ∧ ∃ y4 y5 y6 y7 y8 y9 y10 y11, σ = [some (.ref a), some (.int (0 + (i : Int))), some (.ref p), some (.ref d), y4, y5, y6, y7, y8, y9, y10, y11])
        ⟨((B3.same s310).keep m11 npd).le (by omega), S11, wd11, (hfa.same s310).keep m11 (NotTup.dK wd10), _, _, _, _, _, _, _, _, rfl⟩ (fun j σ H' _ h => h.2.2.1) ?_ ?_
      · rintro j x σ H12 H12' hj ⟨B12, S12, wd12, fa12, y4, y5, y6, y7, y8, y9, y10, y11, rfl⟩ ⟨rfl, kk, v0, hkv, rfl⟩
        obtain ⟨⟨w, u⟩, hq, rfl⟩ : ∃ q : Str × UF, us[j]? = some q ∧ kk = Sum.inr q.1 := by
          have h1 : (kvs.map (·.1))[j]? = some kk := by
            rw [List.getElem?_map, hkv]
            rfl
          rw [fa12.keys, List.getElem?_map] at h1
          cases hu : us[j]? with
          | none => rw [hu] at h1; cases h1
          | some q => rw [hu] at h1; exact ⟨q, rfl, by injection h1 with h1; exact h1.symm⟩
        have hmem : (w, u) ∈ us := List.mem_of_getElem? hq
        have hO := huo _ hmem
        have hwN : w ∈ xs := by
          rw [← hus]
          exact List.mem_map.mpr ⟨_, hmem, rfl⟩
        have hw := hnm w hwN
        have hj6 : j < 6 := by
          have h1 := fa12.len
          have h2 := congrArg List.length hus
          rw [List.length_map] at h2
          omega
        obtain ⟨v, hv, hF⟩ := fa12.get (by rw [hus]; exact hnd) _ hmem
        have get : ∀ H', H' d = some (.frz od (.dK kvs)) → DGet H' d (.str w) (some v) := fun H' h => .inl ⟨kvs, Sum.inr w, .inr ⟨od, h⟩, rfl, hv.symm⟩
        have okU : UStr u := fun x hx => by
          rcases (hO.mem x (List.mem_append_left _ hx)).1 with h | h
          · exact (hnm x h).ok
          · exact (hsm x h).1.ok
        have hop : u.kind = Str.ofString "work" → u.opens = none := fun e => hO.op2 (by rw [e]; decide +kernel)
        -- one, other
        refine ⟨_, rfl, _, rfl, w, d, v, u, rfl, get _ wd12, FactAt.s hF, fun p1 H13 n13 s13 U1 => ⟨_, rfl, _, rfl, _, rfl, d, _, rfl, get _ (s13 _ _ wd12), w, v, u, rfl, hF.same s13, okU, hop, fun p2 H14 n14 s14 U2 => ⟨_, _, rfl, ?_⟩⟩⟩
        have s1214 := s13.trans s14
        have B14 := B12.same s1214
        refine ⟨_, rfl, _, rfl, _, rfl, _, rfl, d, _, rfl, get _ (s1214 _ _ wd12), p, _, w, v, u, xs, ss, rfl, B14, by omega, hF.same s1214, hO, hw, hnm, (fun x hx => (hsm x hx).1), by omega, hsl, fun tb w' vp u' H15 wtb hFS okU' hl' hne ntb B15 k15 => ?_⟩
        refine ⟨tb, _, rfl, SqT.of wtb, rfl, _, _, rfl, _, _, rfl, rfl, ?_⟩
        -- bent
        refine ⟨_, rfl, fun dd ndd => ⟨_, rfl, _, rfl, upd_same, [(Sum.inr w', vp)], rfl, by show 1 ≤ 15; decide, ?_⟩⟩
        generalize hE16 : upd (upd H15 dd _) dd _ = H16
        have w16 : H16 dd = some (.dK [(Sum.inr w', vp)]) := new_at hE16
        have s16 : Same H15 H16 := Same.own (same_upd ndd) (mut_keep hE16) ndd
        refine ⟨w', dd, vp, u', rfl, .inl ⟨_, Sum.inr w', .inl w16, rfl, (show valV [((Sum.inr w' : Key), vp)] (Sum.inr w') = some vp from by rw [valV_pos rfl]).symm⟩, hFS.same s16, fun p3 H17 n17 s17 U3 => ?_⟩
        have s1517 := s16.trans s17
        have wd17 := s1517 _ _ (k15 _ _ (s1214 _ _ wd12) npd.symm)
        have U1' := ((U1.same s14).keep k15 B14).same s1517
        have U2' := (U2.keep k15 B14).same s1517
        have F17 := ((hF.same s1214).keep k15 B14.notTup).same s1517
        -- fields
        refine ⟨_, rfl, _, rfl, _, rfl, _, rfl, d, _, rfl, get _ wd17, p1, w, v, u, rfl, U1', F17, okU, fun H18 s18 => ⟨_, rfl, iteF ?_⟩⟩
        refine ⟨_, rfl, _, rfl, _, rfl, _, rfl, d, _, rfl, get _ (s18 _ _ wd17), p2, w, v, u, rfl, U2'.same s18, F17.same s18, okU, fun H19 s19 => ⟨_, rfl, iteF ?_⟩⟩
        have s1719 := s18.trans s19
        have A1 := U1'.same s1719
        have A2 := U2'.same s1719
        have A3 := U3.same s1719
        have F19 := F17.same s1719
        have hT : decide (w = w ∧ u = u) = true := decide_eq_true ⟨rfl, rfl⟩
        have hN : decide (w = w' ∧ u = u') = false := decide_eq_false hne
        have hN' : decide (w' = w ∧ u' = u) = false := decide_eq_false fun z => hne ⟨z.1.symm, z.2.symm⟩
        have n12 : p1 ≠ p2 := by
          obtain ⟨d1, _, _, _, _, _, e1, _⟩ := U1
          exact ne_some e1 n14
        have n13' : p1 ≠ p3 := by
          obtain ⟨d1, _, _, _, _, _, e1, _⟩ := (((U1.same s14).keep k15 B14).same s16)
          exact ne_some e1 n17
        -- told
        refine ⟨_, rfl, _, rfl, eqU T A1 A2 okU okU ⟨_, rfl, _, rfl, eqU T A2 A1 okU okU ⟨_, rfl, _, rfl, by show 1 ≤ sizeLine; decide, fun l1 m1 => ?_⟩⟩⟩
        generalize hE20 : upd H19 l1 _ = H20
        have w20 := new_at hE20
        have s20 := new_same hE20 m1
        refine ⟨l1, _, rfl, w20, n12.symm, eqU T (A2.same s20) (A1.same s20) okU okU ⟨fun _ _ h => h, ?_⟩⟩
        refine ⟨_, rfl, by show 2 ≤ sizeLine; decide, fun t1 m2 => ?_⟩
        generalize hE21 : upd H20 t1 _ = H21
        have w21 := new_at hE21
        have s21 := new_same hE21 m2
        refine ⟨_, rfl, by show 2 ≤ sizeLine; decide, fun t2 m3 => ?_⟩
        generalize hE22 : upd H21 t2 _ = H22
        have w22 := new_at hE22
        have s22 := new_same hE22 m3
        have s1922 := (s20.trans s21).trans s22
        refine ⟨t1, t2, 0, _, _, rfl, rfl, SqT.of (s22 _ _ w21), SqT.of w22, n12, eqU T (A1.same s1922) (A2.same s1922) okU okU ?_⟩
        refine ⟨by show 4 ≤ sizeLine; decide, fun lt mlt => ?_⟩
        rw [hT]
        generalize hE23 : upd H22 lt _ = H23
        have w23 := new_at hE23
        have s23 := s1922.trans (new_same hE23 mlt)
        have B1 := A1.same s23
        have B2' := A2.same s23
        have B3' := A3.same s23
        have F23 := F19.same s23
        -- if told != [True] * 4 or one != other
        refine ⟨_, rfl, by show 1 ≤ sizeLine; decide, fun l5 m5 => ?_⟩
        generalize hE24 : upd H23 l5 _ = H24
        have w24 := new_at hE24
        have s24 := new_same hE24 m5
        refine ⟨l5, _, _, rfl, rfl, w24, ?_⟩
        refine ⟨by decide, by decide, by show 4 ≤ sizeLine; decide, fun l6 m6 => ?_⟩
        generalize hE25 : upd H24 l6 _ = H25
        have w25 : H25 l6 = some (.lst [.bl true, .bl true, .bl true, .bl true]) := new_at hE25
        have s25 := s24.trans (new_same hE25 m6)
        have flat4 : ∀ b1 b2 b3 b4 : Bool, ∀ v ∈ [V.bl b1, V.bl b2, V.bl b3, V.bl b4], flatN v = true := fun b1 b2 b3 b4 v hv => by
          simp only [List.mem_cons, List.not_mem_nil, or_false] at hv
          rcases hv with rfl | rfl | rfl | rfl <;> rfl
        refine neD_same (SqL.of (s25 _ _ w23)) (SqL.of w25) (flat4 _ _ _ _) ⟨_, rfl, iteF ?_⟩
        have C1 := B1.same s25
        have C2 := B2'.same s25
        have C3 := B3'.same s25
        refine ⟨_, rfl, _, rfl, neU T C1 C2 okU okU ⟨_, rfl, ?_⟩⟩
        rw [hT]
        refine iteF ?_
        -- the bent one
        refine ⟨_, rfl, _, rfl, eqU T C1 C3 okU okU' ⟨_, rfl, _, rfl, eqU T C3 C1 okU' okU ⟨_, rfl, _, rfl, by show 1 ≤ sizeLine; decide, fun l7 m7 => ?_⟩⟩⟩
        generalize hE26 : upd H25 l7 _ = H26
        have w26 := new_at hE26
        have s26 := new_same hE26 m7
        refine ⟨l7, _, rfl, w26, n13'.symm, eqU T (C3.same s26) (C1.same s26) okU' okU ⟨fun _ _ h => h, ?_⟩⟩
        refine ⟨_, rfl, _, rfl, neU T (C3.same s26) (C2.same s26) okU' okU ⟨by show 4 ≤ sizeLine; decide, fun l8 m8 => ?_⟩⟩
        rw [hN, hN']
        generalize hE27 : upd H26 l8 _ = H27
        have w27 := new_at hE27
        have s27 := new_same hE27 m8
        refine ⟨by show 4 ≤ sizeLine; decide, fun l9 m9 => ?_⟩
        generalize hE28 : upd H27 l9 _ = H28
        have w28 : H28 l9 = some (.lst [.bl false, .bl false, .bl false, .bl (!false)]) := new_at hE28
        have s28 := new_same hE28 m9
        refine neD_same (SqL.of (s28 _ _ w27)) (SqL.of w28) (flat4 _ _ _ _) ⟨_, rfl, iteF ?_⟩
        have s2528 := (s26.trans s27).trans s28
        have sAll : Same H17 H28 := ((s1719.trans s23).trans s25).trans s2528
        have wd28 := sAll _ _ wd17
        have F28 := F17.same sAll
        have D1 := U1'.same sAll
        -- odd
        refine ⟨_, rfl, _, rfl, _, rfl, d, _, rfl, get _ wd28, _, rfl, by show 1 ≤ sizeLine; decide, fun l10 m10 => ?_⟩
        generalize hE29 : upd H28 l10 _ = H29
        have w29 := new_at hE29
        have s29 := new_same hE29 m10
        have D29 := D1.same s29
        obtain ⟨dx, en, ex, eb, ea, er, hp29, _, _, _, _, hr29⟩ := id D29
        refine ⟨_, rfl, p1, _, dx, _, _, rfl, hp29, T.cl_Unit, T.na_Unit_rule, rfl, by show 6 ≤ sizeLine; decide, fun l11 m11' => ⟨_, rfl, ?_⟩⟩
        have B29 : Bag (2000 + 20 * j + 2) H29 p := (B15.same s1517).same (sAll.trans s29)
        refine pick_menu [.non, .str w, v, .ref l10, .bl true, er] B29 (by omega) m11' rfl (by show 0 < 6; decide) (by show 6 < 1000; decide) fun odd H30 hodd B30 k30 => ?_
        have E1 := D29.keep k30 B29
        have hOdd : Odd K H30 odd := by
          simp only [List.mem_cons, List.not_mem_nil, or_false] at hodd
          rcases hodd with rfl | rfl | rfl | rfl | rfl | rfl
          · exact .inl ⟨"NoneType", rfl⟩
          · exact .inl ⟨"str", rfl⟩
          · obtain ⟨t, n, x, b, a, g, rfl, h0, _⟩ := (F28.same s29).keep k30 B29.notTup
            exact .inl ⟨"tuple", .inr ⟨rfl, _, SqT.of h0⟩⟩
          · exact .inl ⟨"list", .inl ⟨rfl, _, SqL.of (k30 _ _ w29 (B15.same s1517 |>.same sAll |>.ne m10).symm)⟩⟩
          · exact .inl ⟨"bool", rfl⟩
          · obtain ⟨_, _, hq, _⟩ := B29.ex
            obtain ⟨o1, ho1⟩ : ∃ o, u.five = o := ⟨_, rfl⟩
            rw [ho1] at hr29
            rcases o1 with _ | ⟨f, m, tp, br, sn⟩
            · cases (show _ = V.non from hr29)
              exact .inl ⟨"NoneType", rfl⟩
            · obtain ⟨r, rfl, dr, hr⟩ := hr29
              refine .inr ⟨r, f, m, tp, br, sn, rfl, dr, k30 _ _ hr fun e => ?_⟩
              obtain ⟨_, _, _, hq, _⟩ := B29.ex
              rw [e, hq] at hr
              cases hr
        refine ⟨_, rfl, _, rfl, eqOdd T E1 okU hOdd ⟨_, rfl, iteF ?_⟩⟩
        refine ⟨_, rfl, _, rfl, oddEq T E1 okU hOdd ⟨_, rfl, iteF ?_⟩⟩
        refine ⟨_, rfl, _, rfl, neOdd T E1 okU hOdd ⟨_, rfl, iteF ?_⟩⟩
        obtain ⟨dx', _, _, _, _, _, hp30, _⟩ := id E1
        have lu : (Str.ofString "Unit(").length = 5 := by decide +kernel
        have lp : (Str.ofString ")").length = 1 := by decide +kernel
        have la : ∀ x y : Str, (x ++ y).length = x.length + y.length := fun x y => by rw [TL.len_tl, TL.len_tl, TL.len_tl, TL.tl_append, List.length_append]
        have lw := hw.2.2
        refine ⟨_, rfl, p1, dx', _, rfl, hp30, p1, w, u, rfl, E1, by omega, _, rfl, ?_⟩
        refine ⟨_, rfl, _, _, rfl, rfl, by rw [lu]; exact line1000 (show 5 + w.length ≤ 1000 by omega), _, _, rfl, rfl, by rw [la, lu, lp]; exact line1000 (show 5 + w.length + 1 ≤ 1000 by omega), rfl, _, rfl, neF ?_⟩
        have sEnd := s1517.trans (sAll.trans s29)
        exact ⟨B30.le (by omega), Same.own ((Same.own (S12.trans s1214) k15 npH).trans sEnd) k30 npH, k30 _ _ (s29 _ _ wd28) npd.symm, (((fa12.same s1214).keep k15 B14.notTup).same sEnd).keep k30 B29.notTup, _, _, _, _, _, _, _, _, rfl⟩
      · rintro σ H12 ⟨B12, S12, wd12, fa12, y4, y5, y6, y7, y8, y9, y10, y11, rfl⟩
        refine ⟨wd12, ?_, _, _, _, _, _, _, _, _, _, _, _, rfl⟩
        exact Same.own S12 (mut_keep rfl) ndH
    · rintro σ H1 ⟨s1, y1, y2, y3, y4, y5, y6, y7, y8, y9, y10, y11, rfl⟩
      exact q _

end
theorem kb_Rule_init_1_first_times_top_burst_span_mk {K : PySem.W.Frag} {f : Addr} {fd : FuncData} (F : FunD K "__init__" "Rule.__init__" (defArgs s_Rule_init) (defBody s_Rule_init) (defScope s_Rule_init) [] [("first", V.int 1), ("times", V.int 2), ("top", V.int 64), ("burst", V.int 5), ("span", V.int 100)] f fd) : ∃ gg, KBn K fd ["self", "first", "times", "top", "burst", "span"] 1 ["first", "times", "top", "burst", "span"] gg (fun us ws => us ++ (ws.drop 0).take 1 ++ (ws.drop 1).take 1 ++ (ws.drop 2).take 1 ++ (ws.drop 3).take 1 ++ (ws.drop 4).take 1) := by
  obtain ⟨mv, h⟩ := F.kbinds0 (ps := ["self", "first", "times", "top", "burst", "span"]) 1 ["first", "times", "top", "burst", "span"] [] (fun us mv ws => us ++ (ws.drop 0).take 1 ++ (ws.drop 1).take 1 ++ (ws.drop 2).take 1 ++ (ws.drop 3).take 1 ++ (ws.drop 4).take 1) (by intro z; cases z) (by simp) (fun r1 r2 r3 => (((((r1.append (vals_take ((r3).drop 0) 1)).append (vals_take ((r3).drop 1) 1)).append (vals_take ((r3).drop 2) 1)).append (vals_take ((r3).drop 3) 1)).append (vals_take ((r3).drop 4) 1))) (fun D doc pm an cdv ct us mv ws h1 h2 h3 => match us, mv, ws, h1, h2, h3 with | [_], [], [_, _, _, _, _], _, _, _ => rfl)
  exact ⟨_, h⟩
theorem kb_Unit_init_2_kind_needs_wants_bars_after_opens_rule_mk {K : PySem.W.Frag} {f : Addr} {fd : FuncData} (F : FunD K "__init__" "Unit.__init__" (defArgs s_Unit_init) (defBody s_Unit_init) (defScope s_Unit_init) [] [("kind", V.str "work"), ("needs", V.ref (UO.kwAdr K ("Unit", some "__init__") "needs")), ("wants", V.ref (UO.kwAdr K ("Unit", some "__init__") "wants")), ("bars", V.ref (UO.kwAdr K ("Unit", some "__init__") "bars")), ("after", V.ref (UO.kwAdr K ("Unit", some "__init__") "after")), ("opens", V.non), ("rule", V.non)] f fd) : ∃ gg, KBn K fd ["self", "name", "kind", "needs", "wants", "bars", "after", "opens", "rule"] 2 ["kind", "needs", "wants", "bars", "after", "opens", "rule"] gg (fun us ws => us ++ (ws.drop 0).take 1 ++ (ws.drop 1).take 1 ++ (ws.drop 2).take 1 ++ (ws.drop 3).take 1 ++ (ws.drop 4).take 1 ++ (ws.drop 5).take 1 ++ (ws.drop 6).take 1) := by
  obtain ⟨mv, h⟩ := F.kbinds0 (ps := ["self", "name", "kind", "needs", "wants", "bars", "after", "opens", "rule"]) 2 ["kind", "needs", "wants", "bars", "after", "opens", "rule"] [] (fun us mv ws => us ++ (ws.drop 0).take 1 ++ (ws.drop 1).take 1 ++ (ws.drop 2).take 1 ++ (ws.drop 3).take 1 ++ (ws.drop 4).take 1 ++ (ws.drop 5).take 1 ++ (ws.drop 6).take 1) (by intro z; cases z) (by simp) (fun r1 r2 r3 => (((((((r1.append (vals_take ((r3).drop 0) 1)).append (vals_take ((r3).drop 1) 1)).append (vals_take ((r3).drop 2) 1)).append (vals_take ((r3).drop 3) 1)).append (vals_take ((r3).drop 4) 1)).append (vals_take ((r3).drop 5) 1)).append (vals_take ((r3).drop 6) 1))) (fun D doc pm an cdv ct us mv ws h1 h2 h3 => match us, mv, ws, h1, h2, h3 with | [_, _], [], [_, _, _, _, _, _, _], _, _, _ => rfl)
  exact ⟨_, h⟩
theorem kb_Unit_init_2_after_bars_needs_wants_mk {K : PySem.W.Frag} {f : Addr} {fd : FuncData} (F : FunD K "__init__" "Unit.__init__" (defArgs s_Unit_init) (defBody s_Unit_init) (defScope s_Unit_init) [] [("kind", V.str "work"), ("needs", V.ref (UO.kwAdr K ("Unit", some "__init__") "needs")), ("wants", V.ref (UO.kwAdr K ("Unit", some "__init__") "wants")), ("bars", V.ref (UO.kwAdr K ("Unit", some "__init__") "bars")), ("after", V.ref (UO.kwAdr K ("Unit", some "__init__") "after")), ("opens", V.non), ("rule", V.non)] f fd) : ∃ gg, KBn K fd ["self", "name", "kind", "needs", "wants", "bars", "after", "opens", "rule"] 2 ["after", "bars", "needs", "wants"] gg (fun us ws => us ++ ([V.str "work", V.non, V.non].drop 0).take 1 ++ (ws.drop 2).take 1 ++ (ws.drop 3).take 1 ++ (ws.drop 1).take 1 ++ (ws.drop 0).take 1 ++ ([V.str "work", V.non, V.non].drop 1).take 1 ++ ([V.str "work", V.non, V.non].drop 2).take 1) := by
  obtain ⟨mv, h⟩ := F.kbinds0 (ps := ["self", "name", "kind", "needs", "wants", "bars", "after", "opens", "rule"]) 2 ["after", "bars", "needs", "wants"] [("kind", V.str "work"), ("opens", V.non), ("rule", V.non)] (fun us mv ws => us ++ (mv.drop 0).take 1 ++ (ws.drop 2).take 1 ++ (ws.drop 3).take 1 ++ (ws.drop 1).take 1 ++ (ws.drop 0).take 1 ++ (mv.drop 1).take 1 ++ (mv.drop 2).take 1) (by intro z; cases z) (by simp) (fun r1 r2 r3 => (((((((r1.append (vals_take ((r2).drop 0) 1)).append (vals_take ((r3).drop 2) 1)).append (vals_take ((r3).drop 3) 1)).append (vals_take ((r3).drop 1) 1)).append (vals_take ((r3).drop 0) 1)).append (vals_take ((r2).drop 1) 1)).append (vals_take ((r2).drop 2) 1))) (fun D doc pm an cdv ct us mv ws h1 h2 h3 => match us, mv, ws, h1, h2, h3 with | [_, _], [_, _, _], [_, _, _, _], _, _, _ => ⟨_, _, _, _, _, _, rfl, rfl, ⟨_, _, _, _, _, _, rfl, rfl, ⟨_, _, _, _, _, _, rfl, rfl, rfl⟩⟩⟩)
  exact ⟨_, h⟩
theorem kb_Unit_init_2_rule_opens_after_bars_wants_needs_kind_mk {K : PySem.W.Frag} {f : Addr} {fd : FuncData} (F : FunD K "__init__" "Unit.__init__" (defArgs s_Unit_init) (defBody s_Unit_init) (defScope s_Unit_init) [] [("kind", V.str "work"), ("needs", V.ref (UO.kwAdr K ("Unit", some "__init__") "needs")), ("wants", V.ref (UO.kwAdr K ("Unit", some "__init__") "wants")), ("bars", V.ref (UO.kwAdr K ("Unit", some "__init__") "bars")), ("after", V.ref (UO.kwAdr K ("Unit", some "__init__") "after")), ("opens", V.non), ("rule", V.non)] f fd) : ∃ gg, KBn K fd ["self", "name", "kind", "needs", "wants", "bars", "after", "opens", "rule"] 2 ["rule", "opens", "after", "bars", "wants", "needs", "kind"] gg (fun us ws => us ++ (ws.drop 6).take 1 ++ (ws.drop 5).take 1 ++ (ws.drop 4).take 1 ++ (ws.drop 3).take 1 ++ (ws.drop 2).take 1 ++ (ws.drop 1).take 1 ++ (ws.drop 0).take 1) := by
  obtain ⟨mv, h⟩ := F.kbinds0 (ps := ["self", "name", "kind", "needs", "wants", "bars", "after", "opens", "rule"]) 2 ["rule", "opens", "after", "bars", "wants", "needs", "kind"] [] (fun us mv ws => us ++ (ws.drop 6).take 1 ++ (ws.drop 5).take 1 ++ (ws.drop 4).take 1 ++ (ws.drop 3).take 1 ++ (ws.drop 2).take 1 ++ (ws.drop 1).take 1 ++ (ws.drop 0).take 1) (by intro z; cases z) (by simp) (fun r1 r2 r3 => (((((((r1.append (vals_take ((r3).drop 6) 1)).append (vals_take ((r3).drop 5) 1)).append (vals_take ((r3).drop 4) 1)).append (vals_take ((r3).drop 3) 1)).append (vals_take ((r3).drop 2) 1)).append (vals_take ((r3).drop 1) 1)).append (vals_take ((r3).drop 0) 1))) (fun D doc pm an cdv ct us mv ws h1 h2 h3 => match us, mv, ws, h1, h2, h3 with | [_, _], [], [_, _, _, _, _, _, _], _, _, _ => rfl)
  exact ⟨_, h⟩
theorem kb_Unit_init_1_wants_needs_name_mk {K : PySem.W.Frag} {f : Addr} {fd : FuncData} (F : FunD K "__init__" "Unit.__init__" (defArgs s_Unit_init) (defBody s_Unit_init) (defScope s_Unit_init) [] [("kind", V.str "work"), ("needs", V.ref (UO.kwAdr K ("Unit", some "__init__") "needs")), ("wants", V.ref (UO.kwAdr K ("Unit", some "__init__") "wants")), ("bars", V.ref (UO.kwAdr K ("Unit", some "__init__") "bars")), ("after", V.ref (UO.kwAdr K ("Unit", some "__init__") "after")), ("opens", V.non), ("rule", V.non)] f fd) : ∃ gg, KBn K fd ["self", "name", "kind", "needs", "wants", "bars", "after", "opens", "rule"] 1 ["wants", "needs", "name"] gg (fun us ws => us ++ (ws.drop 2).take 1 ++ ([V.str "work", V.ref (UO.kwAdr K ("Unit", some "__init__") "bars"), V.ref (UO.kwAdr K ("Unit", some "__init__") "after"), V.non, V.non].drop 0).take 1 ++ (ws.drop 1).take 1 ++ (ws.drop 0).take 1 ++ ([V.str "work", V.ref (UO.kwAdr K ("Unit", some "__init__") "bars"), V.ref (UO.kwAdr K ("Unit", some "__init__") "after"), V.non, V.non].drop 1).take 1 ++ ([V.str "work", V.ref (UO.kwAdr K ("Unit", some "__init__") "bars"), V.ref (UO.kwAdr K ("Unit", some "__init__") "after"), V.non, V.non].drop 2).take 1 ++ ([V.str "work", V.ref (UO.kwAdr K ("Unit", some "__init__") "bars"), V.ref (UO.kwAdr K ("Unit", some "__init__") "after"), V.non, V.non].drop 3).take 1 ++ ([V.str "work", V.ref (UO.kwAdr K ("Unit", some "__init__") "bars"), V.ref (UO.kwAdr K ("Unit", some "__init__") "after"), V.non, V.non].drop 4).take 1) := by
  obtain ⟨mv, h⟩ := F.kbinds0 (ps := ["self", "name", "kind", "needs", "wants", "bars", "after", "opens", "rule"]) 1 ["wants", "needs", "name"] [("kind", V.str "work"), ("bars", V.ref (UO.kwAdr K ("Unit", some "__init__") "bars")), ("after", V.ref (UO.kwAdr K ("Unit", some "__init__") "after")), ("opens", V.non), ("rule", V.non)] (fun us mv ws => us ++ (ws.drop 2).take 1 ++ (mv.drop 0).take 1 ++ (ws.drop 1).take 1 ++ (ws.drop 0).take 1 ++ (mv.drop 1).take 1 ++ (mv.drop 2).take 1 ++ (mv.drop 3).take 1 ++ (mv.drop 4).take 1) (by intro z; cases z) (by simp) (fun r1 r2 r3 => ((((((((r1.append (vals_take ((r3).drop 2) 1)).append (vals_take ((r2).drop 0) 1)).append (vals_take ((r3).drop 1) 1)).append (vals_take ((r3).drop 0) 1)).append (vals_take ((r2).drop 1) 1)).append (vals_take ((r2).drop 2) 1)).append (vals_take ((r2).drop 3) 1)).append (vals_take ((r2).drop 4) 1))) (fun D doc pm an cdv ct us mv ws h1 h2 h3 => match us, mv, ws, h1, h2, h3 with | [_], [_, _, _, _, _], [_, _, _], _, _, _ => ⟨_, _, _, _, _, _, rfl, rfl, ⟨_, _, _, _, _, _, rfl, rfl, ⟨_, _, _, _, _, _, rfl, rfl, ⟨_, _, _, _, _, _, rfl, rfl, ⟨_, _, _, _, _, _, rfl, rfl, rfl⟩⟩⟩⟩⟩)
  exact ⟨_, h⟩
theorem kb_Unit_init_2_none_mk {K : PySem.W.Frag} {f : Addr} {fd : FuncData} (F : FunD K "__init__" "Unit.__init__" (defArgs s_Unit_init) (defBody s_Unit_init) (defScope s_Unit_init) [] [("kind", V.str "work"), ("needs", V.ref (UO.kwAdr K ("Unit", some "__init__") "needs")), ("wants", V.ref (UO.kwAdr K ("Unit", some "__init__") "wants")), ("bars", V.ref (UO.kwAdr K ("Unit", some "__init__") "bars")), ("after", V.ref (UO.kwAdr K ("Unit", some "__init__") "after")), ("opens", V.non), ("rule", V.non)] f fd) : ∃ gg, KBn K fd ["self", "name", "kind", "needs", "wants", "bars", "after", "opens", "rule"] 2 [] gg (fun us ws => us ++ ([V.str "work", V.ref (UO.kwAdr K ("Unit", some "__init__") "needs"), V.ref (UO.kwAdr K ("Unit", some "__init__") "wants"), V.ref (UO.kwAdr K ("Unit", some "__init__") "bars"), V.ref (UO.kwAdr K ("Unit", some "__init__") "after"), V.non, V.non].drop 0).take 1 ++ ([V.str "work", V.ref (UO.kwAdr K ("Unit", some "__init__") "needs"), V.ref (UO.kwAdr K ("Unit", some "__init__") "wants"), V.ref (UO.kwAdr K ("Unit", some "__init__") "bars"), V.ref (UO.kwAdr K ("Unit", some "__init__") "after"), V.non, V.non].drop 1).take 1 ++ ([V.str "work", V.ref (UO.kwAdr K ("Unit", some "__init__") "needs"), V.ref (UO.kwAdr K ("Unit", some "__init__") "wants"), V.ref (UO.kwAdr K ("Unit", some "__init__") "bars"), V.ref (UO.kwAdr K ("Unit", some "__init__") "after"), V.non, V.non].drop 2).take 1 ++ ([V.str "work", V.ref (UO.kwAdr K ("Unit", some "__init__") "needs"), V.ref (UO.kwAdr K ("Unit", some "__init__") "wants"), V.ref (UO.kwAdr K ("Unit", some "__init__") "bars"), V.ref (UO.kwAdr K ("Unit", some "__init__") "after"), V.non, V.non].drop 3).take 1 ++ ([V.str "work", V.ref (UO.kwAdr K ("Unit", some "__init__") "needs"), V.ref (UO.kwAdr K ("Unit", some "__init__") "wants"), V.ref (UO.kwAdr K ("Unit", some "__init__") "bars"), V.ref (UO.kwAdr K ("Unit", some "__init__") "after"), V.non, V.non].drop 4).take 1 ++ ([V.str "work", V.ref (UO.kwAdr K ("Unit", some "__init__") "needs"), V.ref (UO.kwAdr K ("Unit", some "__init__") "wants"), V.ref (UO.kwAdr K ("Unit", some "__init__") "bars"), V.ref (UO.kwAdr K ("Unit", some "__init__") "after"), V.non, V.non].drop 5).take 1 ++ ([V.str "work", V.ref (UO.kwAdr K ("Unit", some "__init__") "needs"), V.ref (UO.kwAdr K ("Unit", some "__init__") "wants"), V.ref (UO.kwAdr K ("Unit", some "__init__") "bars"), V.ref (UO.kwAdr K ("Unit", some "__init__") "after"), V.non, V.non].drop 6).take 1) := by
  obtain ⟨mv, h⟩ := F.kbinds0 (ps := ["self", "name", "kind", "needs", "wants", "bars", "after", "opens", "rule"]) 2 [] [("kind", V.str "work"), ("needs", V.ref (UO.kwAdr K ("Unit", some "__init__") "needs")), ("wants", V.ref (UO.kwAdr K ("Unit", some "__init__") "wants")), ("bars", V.ref (UO.kwAdr K ("Unit", some "__init__") "bars")), ("after", V.ref (UO.kwAdr K ("Unit", some "__init__") "after")), ("opens", V.non), ("rule", V.non)] (fun us mv ws => us ++ (mv.drop 0).take 1 ++ (mv.drop 1).take 1 ++ (mv.drop 2).take 1 ++ (mv.drop 3).take 1 ++ (mv.drop 4).take 1 ++ (mv.drop 5).take 1 ++ (mv.drop 6).take 1) (by intro z; cases z) (by simp) (fun r1 r2 r3 => (((((((r1.append (vals_take ((r2).drop 0) 1)).append (vals_take ((r2).drop 1) 1)).append (vals_take ((r2).drop 2) 1)).append (vals_take ((r2).drop 3) 1)).append (vals_take ((r2).drop 4) 1)).append (vals_take ((r2).drop 5) 1)).append (vals_take ((r2).drop 6) 1))) (fun D doc pm an cdv ct us mv ws h1 h2 h3 => match us, mv, ws, h1, h2, h3 with | [_, _], [_, _, _, _, _, _, _], [], _, _, _ => ⟨_, _, _, _, _, _, rfl, rfl, ⟨_, _, _, _, _, _, rfl, rfl, ⟨_, _, _, _, _, _, rfl, rfl, ⟨_, _, _, _, _, _, rfl, rfl, ⟨_, _, _, _, _, _, rfl, rfl, ⟨_, _, _, _, _, _, rfl, rfl, ⟨_, _, _, _, _, _, rfl, rfl, rfl⟩⟩⟩⟩⟩⟩⟩)
  exact ⟨_, h⟩
def dd_Unit_init : He.DefD := ⟨("Unit", some "__init__"), "__init__", "Unit.__init__", defArgs s_Unit_init, defBody s_Unit_init, defScope s_Unit_init, [], [("kind", .str "work"), ("needs", .adr (fun K => UO.kwAdr K ("Unit", some "__init__") "needs")), ("wants", .adr (fun K => UO.kwAdr K ("Unit", some "__init__") "wants")), ("bars", .adr (fun K => UO.kwAdr K ("Unit", some "__init__") "bars")), ("after", .adr (fun K => UO.kwAdr K ("Unit", some "__init__") "after")), ("opens", .non), ("rule", .non)]⟩
def dd_Unit_eq : He.DefD := ⟨("Unit", some "__eq__"), "__eq__", "Unit.__eq__", defArgs s_Unit_eq, defBody s_Unit_eq, defScope s_Unit_eq, [], []⟩
def dd_Unit_repr : He.DefD := ⟨("Unit", some "__repr__"), "__repr__", "Unit.__repr__", defArgs s_Unit_repr, defBody s_Unit_repr, defScope s_Unit_repr, [], []⟩
def dd_Rule_init : He.DefD := ⟨("Rule", some "__init__"), "__init__", "Rule.__init__", defArgs s_Rule_init, defBody s_Rule_init, defScope s_Rule_init, [], [("first", .int 1), ("times", .int 2), ("top", .int 64), ("burst", .int 5), ("span", .int 100)]⟩
def dd_Rule_eq : He.DefD := ⟨("Rule", some "__eq__"), "__eq__", "Rule.__eq__", defArgs s_Rule_eq, defBody s_Rule_eq, defScope s_Rule_eq, [], []⟩
def dd_Rule_str : He.DefD := ⟨("Rule", some "__str__"), "__str__", "Rule.__str__", defArgs s_Rule_str, defBody s_Rule_str, defScope s_Rule_str, [], []⟩
def dd_Rule_repr : He.DefD := ⟨("Rule", some "__repr__"), "__repr__", "Rule.__repr__", defArgs s_Rule_repr, defBody s_Rule_repr, defScope s_Rule_repr, [], []⟩
def dd_law_bag : He.DefD := ⟨("_law_bag", none), "_law_bag", "_law_bag", defArgs s_law_bag, defBody s_law_bag, defScope s_law_bag, [], []⟩
def dd_law_take : He.DefD := ⟨("_law_take", none), "_law_take", "_law_take", defArgs s_law_take, defBody s_law_take, defScope s_law_take, [], []⟩
def dd_law_name : He.DefD := ⟨("_law_name", none), "_law_name", "_law_name", defArgs s_law_name, defBody s_law_name, defScope s_law_name, [], []⟩
def dd_law_names : He.DefD := ⟨("_law_names", none), "_law_names", "_law_names", defArgs s_law_names, defBody s_law_names, defScope s_law_names, [], []⟩
def dd_law_rule_parts : He.DefD := ⟨("_law_rule_parts", none), "_law_rule_parts", "_law_rule_parts", defArgs s_law_rule_parts, defBody s_law_rule_parts, defScope s_law_rule_parts, [], []⟩
def dd_law_rule : He.DefD := ⟨("_law_rule", none), "_law_rule", "_law_rule", defArgs s_law_rule, defBody s_law_rule, defScope s_law_rule, [], []⟩
def dd_law_some : He.DefD := ⟨("_law_some", none), "_law_some", "_law_some", defArgs s_law_some, defBody s_law_some, defScope s_law_some, [], []⟩
def dd_law_facts : He.DefD := ⟨("_law_facts", none), "_law_facts", "_law_facts", defArgs s_law_facts, defBody s_law_facts, defScope s_law_facts, [], []⟩
def dd_law_unit : He.DefD := ⟨("_law_unit", none), "_law_unit", "_law_unit", defArgs s_law_unit, defBody s_law_unit, defScope s_law_unit, [], []⟩
def dd_law_fields_right : He.DefD := ⟨("_law_fields_right", none), "_law_fields_right", "_law_fields_right", defArgs s_law_fields_right, defBody s_law_fields_right, defScope s_law_fields_right, [], []⟩
def dd_law_made_anew : He.DefD := ⟨("_law_made_anew", none), "_law_made_anew", "_law_made_anew", defArgs s_law_made_anew, defBody s_law_made_anew, defScope s_law_made_anew, [], []⟩
def dd_law_bent : He.DefD := ⟨("_law_bent", none), "_law_bent", "_law_bent", defArgs s_law_bent, defBody s_law_bent, defScope s_law_bent, [], []⟩
def dd_law : He.DefD := ⟨("law", none), "law", "law", defArgs s_law, defBody s_law, defScope s_law, [], []⟩
def fn : List He.DefD := [dd_Unit_init, dd_Unit_eq, dd_Unit_repr, dd_Rule_init, dd_Rule_eq, dd_Rule_str, dd_Rule_repr, dd_law_bag, dd_law_take, dd_law_name, dd_law_names, dd_law_rule_parts, dd_law_rule, dd_law_some, dd_law_facts, dd_law_unit, dd_law_fields_right, dd_law_made_anew, dd_law_bent, dd_law]
def fa : List He.Fa := [.meth "Unit" "__eq__", .meth "Unit" "__repr__", .meth "Rule" "__eq__", .meth "Rule" "__str__", .meth "Rule" "__repr__", .glo "_law_bag", .glo "_law_take", .glo "_law_name", .glo "_law_names", .glo "_law_rule_parts", .glo "_law_rule", .glo "_law_some", .glo "_law_facts", .glo "_law_unit", .glo "_law_fields_right", .glo "_law_made_anew", .glo "_law_bent", .glo "law", .glo "Unit", .cls "Unit", .mkr "Unit", .noat "Unit" "name", .noat "Unit" "kind", .noat "Unit" "needs", .noat "Unit" "wants", .noat "Unit" "bars", .noat "Unit" "after", .noat "Unit" "opens", .noat "Unit" "rule", .glo "Rule", .cls "Rule", .mkr "Rule", .noat "Rule" "first", .noat "Rule" "times", .noat "Rule" "top", .noat "Rule" "burst", .noat "Rule" "span", .free "isinstance", .free "abs", .free "len", .free "int", .free "range", .free "tuple", .free "list", .free "all", .free "max", .free "min", .free "repr"]
abbrev R : PySem.W.OpenRow := PySem.W.OpenLaw.row PySem.Challenge.rw_unitwants_k04_units_made_and_equal
def exB (K : PySem.W.Frag) : Bool := UO.insB "Rule" K && UO.insB "Unit" K && UO.tup0B K (UO.kwAdr K ("Unit", some "__init__") "needs") && UO.tup0B K (UO.kwAdr K ("Unit", some "__init__") "wants") && UO.tup0B K (UO.kwAdr K ("Unit", some "__init__") "bars") && UO.tup0B K (UO.kwAdr K ("Unit", some "__init__") "after") && UO.pairB "Rule" "Unit" K && UO.pairB "Unit" "Rule" K
abbrev hk : PySem.W.Hook := UO.hookB 6 fa fn exB
def ob (s : PySem.W.SharedT) : UO.AlB := UO.obsB 6 fa fn exB (HandSHeadRun.getT s)
theorem ob_eq (s : PySem.W.SharedT) : ob s = hk.obs s.abs := UO.obsB_eq (HandSHeadRun.getT_eq s)
set_option maxHeartbeats 0 in
theorem run (w : World) : HandSHeadRun.RunEq R (PySem.W.view R.prog [17]) hk ob 4000 ["Unit", "Rule", "_law_bag", "_law_take", "_law_name", "_law_names", "_law_rule_parts", "_law_rule", "_law_some", "_law_facts", "_law_unit", "_law_fields_right", "_law_made_anew", "_law_bent"] w := by
  intro os
  kernel_rfl
theorem facts {P : Program} {w : World} {K : PySem.W.Frag} {h : Heap} {mg : Str → Option Value} {f : Addr} (X : K.In h) (G : h.Ns mainGlobals mg) (hfa : mg ("law" : Str) = some (.ref f)) (c : He.SaysD fa fn K) (cx : exB K = true) :
    ∃ fd : FuncData, (∀ (s : Shared) (v : Value), BindsTo s fd ⟨[v], []⟩ [("_law_script", v)]) ∧ ∀ base : Heap, K.In base → base.Ns mainGlobals mg → FnOk P w K mg base CX0 11 f fd ["_law_script"] (sp_law K) := by
  obtain ⟨d0, F0⟩ := c.def_ 0 (d := dd_Unit_init) rfl
  obtain ⟨d1, F1⟩ := c.def_ 1 (d := dd_Unit_eq) rfl
  obtain ⟨d2, F2⟩ := c.def_ 2 (d := dd_Unit_repr) rfl
  obtain ⟨d3, F3⟩ := c.def_ 3 (d := dd_Rule_init) rfl
  obtain ⟨d4, F4⟩ := c.def_ 4 (d := dd_Rule_eq) rfl
  obtain ⟨d5, F5⟩ := c.def_ 5 (d := dd_Rule_str) rfl
  obtain ⟨d6, F6⟩ := c.def_ 6 (d := dd_Rule_repr) rfl
  obtain ⟨d7, F7⟩ := c.def_ 7 (d := dd_law_bag) rfl
  obtain ⟨d8, F8⟩ := c.def_ 8 (d := dd_law_take) rfl
  obtain ⟨d9, F9⟩ := c.def_ 9 (d := dd_law_name) rfl
  obtain ⟨d10, F10⟩ := c.def_ 10 (d := dd_law_names) rfl
  obtain ⟨d11, F11⟩ := c.def_ 11 (d := dd_law_rule_parts) rfl
  obtain ⟨d12, F12⟩ := c.def_ 12 (d := dd_law_rule) rfl
  obtain ⟨d13, F13⟩ := c.def_ 13 (d := dd_law_some) rfl
  obtain ⟨d14, F14⟩ := c.def_ 14 (d := dd_law_facts) rfl
  obtain ⟨d15, F15⟩ := c.def_ 15 (d := dd_law_unit) rfl
  obtain ⟨d16, F16⟩ := c.def_ 16 (d := dd_law_fields_right) rfl
  obtain ⟨d17, F17⟩ := c.def_ 17 (d := dd_law_made_anew) rfl
  obtain ⟨d18, F18⟩ := c.def_ 18 (d := dd_law_bent) rfl
  obtain ⟨d19, F19⟩ := c.def_ 19 (d := dd_law) rfl
  let T : Txt K mg := {
    d_Unit_init := d0
    F_Unit_init := F0
    d_Unit_eq := d1
    F_Unit_eq := F1
    b_Unit_eq := FunD.bindsN (ps := ["self", "other"]) F1 fun _ _ _ _ _ _ us hl => match us, hl with | [_, _], _ => rfl
    d_Unit_repr := d2
    F_Unit_repr := F2
    b_Unit_repr := FunD.bindsN (ps := ["self"]) F2 fun _ _ _ _ _ _ us hl => match us, hl with | [_], _ => rfl
    d_Rule_init := d3
    F_Rule_init := F3
    d_Rule_eq := d4
    F_Rule_eq := F4
    b_Rule_eq := FunD.bindsN (ps := ["self", "other"]) F4 fun _ _ _ _ _ _ us hl => match us, hl with | [_, _], _ => rfl
    d_Rule_str := d5
    F_Rule_str := F5
    b_Rule_str := FunD.bindsN (ps := ["self"]) F5 fun _ _ _ _ _ _ us hl => match us, hl with | [_], _ => rfl
    d_Rule_repr := d6
    F_Rule_repr := F6
    b_Rule_repr := FunD.bindsN (ps := ["self"]) F6 fun _ _ _ _ _ _ us hl => match us, hl with | [_], _ => rfl
    d_law_bag := d7
    F_law_bag := F7
    b_law_bag := FunD.bindsN (ps := ["_law_script", "_law_at"]) F7 fun _ _ _ _ _ _ us hl => match us, hl with | [_, _], _ => rfl
    d_law_take := d8
    F_law_take := F8
    b_law_take := FunD.bindsN (ps := ["_law_bag_here", "_law_size"]) F8 fun _ _ _ _ _ _ us hl => match us, hl with | [_, _], _ => rfl
    d_law_name := d9
    F_law_name := F9
    b_law_name := FunD.bindsN (ps := ["_law_bag_here"]) F9 fun _ _ _ _ _ _ us hl => match us, hl with | [_], _ => rfl
    d_law_names := d10
    F_law_names := F10
    b_law_names := FunD.bindsN (ps := ["_law_bag_here", "_law_size"]) F10 fun _ _ _ _ _ _ us hl => match us, hl with | [_, _], _ => rfl
    d_law_rule_parts := d11
    F_law_rule_parts := F11
    b_law_rule_parts := FunD.bindsN (ps := ["_law_bag_here"]) F11 fun _ _ _ _ _ _ us hl => match us, hl with | [_], _ => rfl
    d_law_rule := d12
    F_law_rule := F12
    b_law_rule := FunD.bindsN (ps := ["_law_five"]) F12 fun _ _ _ _ _ _ us hl => match us, hl with | [_], _ => rfl
    d_law_some := d13
    F_law_some := F13
    b_law_some := FunD.bindsN (ps := ["_law_bag_here", "_law_pool", "_law_most"]) F13 fun _ _ _ _ _ _ us hl => match us, hl with | [_, _, _], _ => rfl
    d_law_facts := d14
    F_law_facts := F14
    b_law_facts := FunD.bindsN (ps := ["_law_bag_here", "_law_most"]) F14 fun _ _ _ _ _ _ us hl => match us, hl with | [_, _], _ => rfl
    d_law_unit := d15
    F_law_unit := F15
    b_law_unit := FunD.bindsN (ps := ["_law_word", "_law_facts_here"]) F15 fun _ _ _ _ _ _ us hl => match us, hl with | [_, _], _ => rfl
    d_law_fields_right := d16
    F_law_fields_right := F16
    b_law_fields_right := FunD.bindsN (ps := ["_law_one", "_law_word", "_law_parts"]) F16 fun _ _ _ _ _ _ us hl => match us, hl with | [_, _, _], _ => rfl
    d_law_made_anew := d17
    F_law_made_anew := F17
    b_law_made_anew := FunD.bindsN (ps := ["_law_word", "_law_parts"]) F17 fun _ _ _ _ _ _ us hl => match us, hl with | [_, _], _ => rfl
    d_law_bent := d18
    F_law_bent := F18
    b_law_bent := FunD.bindsN (ps := ["_law_bag_here", "_law_word", "_law_parts"]) F18 fun _ _ _ _ _ _ us hl => match us, hl with | [_, _, _], _ => rfl
    d_law := d19
    F_law := F19
    b_law := FunD.bindsN (ps := ["_law_script"]) F19 fun _ _ _ _ _ _ us hl => match us, hl with | [_], _ => rfl
    me_Unit_eq := He.meth_ok (c.fact 0 (f := .meth "Unit" "__eq__") rfl)
    me_Unit_repr := He.meth_ok (c.fact 1 (f := .meth "Unit" "__repr__") rfl)
    me_Rule_eq := He.meth_ok (c.fact 2 (f := .meth "Rule" "__eq__") rfl)
    me_Rule_str := He.meth_ok (c.fact 3 (f := .meth "Rule" "__str__") rfl)
    me_Rule_repr := He.meth_ok (c.fact 4 (f := .meth "Rule" "__repr__") rfl)
    m_law_bag := He.glo_ok X G (c.fact 5 (f := .glo "_law_bag") rfl)
    m_law_take := He.glo_ok X G (c.fact 6 (f := .glo "_law_take") rfl)
    m_law_name := He.glo_ok X G (c.fact 7 (f := .glo "_law_name") rfl)
    m_law_names := He.glo_ok X G (c.fact 8 (f := .glo "_law_names") rfl)
    m_law_rule_parts := He.glo_ok X G (c.fact 9 (f := .glo "_law_rule_parts") rfl)
    m_law_rule := He.glo_ok X G (c.fact 10 (f := .glo "_law_rule") rfl)
    m_law_some := He.glo_ok X G (c.fact 11 (f := .glo "_law_some") rfl)
    m_law_facts := He.glo_ok X G (c.fact 12 (f := .glo "_law_facts") rfl)
    m_law_unit := He.glo_ok X G (c.fact 13 (f := .glo "_law_unit") rfl)
    m_law_fields_right := He.glo_ok X G (c.fact 14 (f := .glo "_law_fields_right") rfl)
    m_law_made_anew := He.glo_ok X G (c.fact 15 (f := .glo "_law_made_anew") rfl)
    m_law_bent := He.glo_ok X G (c.fact 16 (f := .glo "_law_bent") rfl)
    m_law := He.glo_ok X G (c.fact 17 (f := .glo "law") rfl)
    m_Unit := He.glo_ok X G (c.fact 18 (f := .glo "Unit") rfl)
    cl_Unit := He.cls_ok (c.fact 19 (f := .cls "Unit") rfl)
    mk_Unit := He.mkr_ok (c.fact 20 (f := .mkr "Unit") rfl)
    na_Unit_name := He.noat_ok (c.fact 21 (f := .noat "Unit" "name") rfl)
    na_Unit_kind := He.noat_ok (c.fact 22 (f := .noat "Unit" "kind") rfl)
    na_Unit_needs := He.noat_ok (c.fact 23 (f := .noat "Unit" "needs") rfl)
    na_Unit_wants := He.noat_ok (c.fact 24 (f := .noat "Unit" "wants") rfl)
    na_Unit_bars := He.noat_ok (c.fact 25 (f := .noat "Unit" "bars") rfl)
    na_Unit_after := He.noat_ok (c.fact 26 (f := .noat "Unit" "after") rfl)
    na_Unit_opens := He.noat_ok (c.fact 27 (f := .noat "Unit" "opens") rfl)
    na_Unit_rule := He.noat_ok (c.fact 28 (f := .noat "Unit" "rule") rfl)
    m_Rule := He.glo_ok X G (c.fact 29 (f := .glo "Rule") rfl)
    cl_Rule := He.cls_ok (c.fact 30 (f := .cls "Rule") rfl)
    mk_Rule := He.mkr_ok (c.fact 31 (f := .mkr "Rule") rfl)
    na_Rule_first := He.noat_ok (c.fact 32 (f := .noat "Rule" "first") rfl)
    na_Rule_times := He.noat_ok (c.fact 33 (f := .noat "Rule" "times") rfl)
    na_Rule_top := He.noat_ok (c.fact 34 (f := .noat "Rule" "top") rfl)
    na_Rule_burst := He.noat_ok (c.fact 35 (f := .noat "Rule" "burst") rfl)
    na_Rule_span := He.noat_ok (c.fact 36 (f := .noat "Rule" "span") rfl)
    n_isinstance := He.free_ok X G (c.fact 37 (f := .free "isinstance") rfl)
    n_abs := He.free_ok X G (c.fact 38 (f := .free "abs") rfl)
    n_len := He.free_ok X G (c.fact 39 (f := .free "len") rfl)
    n_int := He.free_ok X G (c.fact 40 (f := .free "int") rfl)
    n_range := He.free_ok X G (c.fact 41 (f := .free "range") rfl)
    n_tuple := He.free_ok X G (c.fact 42 (f := .free "tuple") rfl)
    n_list := He.free_ok X G (c.fact 43 (f := .free "list") rfl)
    n_all := He.free_ok X G (c.fact 44 (f := .free "all") rfl)
    n_max := He.free_ok X G (c.fact 45 (f := .free "max") rfl)
    n_min := He.free_ok X G (c.fact 46 (f := .free "min") rfl)
    n_repr := He.free_ok X G (c.fact 47 (f := .free "repr") rfl)
    ix_Rule := UO.insB_ok (He.ba (He.ba (He.ba (He.ba (He.ba (He.ba (He.ba cx).1).1).1).1).1).1).1
    ix_Unit := UO.insB_ok (He.ba (He.ba (He.ba (He.ba (He.ba (He.ba (He.ba cx).1).1).1).1).1).1).2
    e0_Unit_init_needs := fun H => UO.tup0B_ok (He.ba (He.ba (He.ba (He.ba (He.ba (He.ba cx).1).1).1).1).1).2 H
    e0_Unit_init_wants := fun H => UO.tup0B_ok (He.ba (He.ba (He.ba (He.ba (He.ba cx).1).1).1).1).2 H
    e0_Unit_init_bars := fun H => UO.tup0B_ok (He.ba (He.ba (He.ba (He.ba cx).1).1).1).2 H
    e0_Unit_init_after := fun H => UO.tup0B_ok (He.ba (He.ba (He.ba cx).1).1).2 H
    px_Rule_Unit := UO.pairB_ok (He.ba (He.ba cx).1).2
    px_Unit_Rule := UO.pairB_ok (He.ba cx).2
    kb_Rule_init_1_first_times_top_burst_span := kb_Rule_init_1_first_times_top_burst_span_mk F3
    kb_Unit_init_2_kind_needs_wants_bars_after_opens_rule := kb_Unit_init_2_kind_needs_wants_bars_after_opens_rule_mk F0
    kb_Unit_init_2_after_bars_needs_wants := kb_Unit_init_2_after_bars_needs_wants_mk F0
    kb_Unit_init_2_rule_opens_after_bars_wants_needs_kind := kb_Unit_init_2_rule_opens_after_bars_wants_needs_kind_mk F0
    kb_Unit_init_1_wants_needs_name := kb_Unit_init_1_wants_needs_name_mk F0
    kb_Unit_init_2_none := kb_Unit_init_2_none_mk F0 }
  have e := hfa.symm.trans T.m_law
  cases e
  have b := FunD.bindsA (ps := ["_law_script"]) T.F_law fun _ _ _ _ _ _ us hl => match us, hl with | [_], _ => rfl
  exact ⟨T.d_law, fun s v => b s [v] rfl, fun base _ _ => ok_law T⟩
end K04
open PySem PySem.W PySem.Calls PyProof.Rows
set_option maxRecDepth 100000 in
set_option maxHeartbeats 0 in
theorem PySem.Challenge.cw_unitwants_k04_units_made_and_equal_holds : PySem.Challenge.rw_unitwants_k04_units_made_and_equal.Holds := by
  w_on; o_law
  refine HandSHeadRun.head_any (r := OpenLaw.row PySem.Challenge.rw_unitwants_k04_units_made_and_equal) (q := view (OpenLaw.row PySem.Challenge.rw_unitwants_k04_units_made_and_equal).prog [17]) (H := K04.hk) (ob := K04.ob) (M := 4000) (loose := ["Unit", "Rule", "_law_bag", "_law_take", "_law_name", "_law_names", "_law_rule_parts", "_law_rule", "_law_some", "_law_facts", "_law_unit", "_law_fields_right", "_law_made_anew", "_law_bent"]) (d := HandSHeadRun.topDef (OpenLaw.row PySem.Challenge.rw_unitwants_k04_units_made_and_equal).prog 17) (kwd := []) K04.ob_eq
    (by kernel_rfl) (fun s => by kernel_rfl) K04.run (by kernel_rfl) (by kernel_rfl) (by kernel_rfl) (by rfl) (by first | assumption | decide +kernel) (by decide +kernel) ⟨rfl, rfl, rfl, rfl, rfl, by decide +kernel⟩ ?hw ?hc
  case hw => w_witness2
  case hc =>
    refine L2.walk_ofE (l := PySem.Challenge.rw_unitwants_k04_units_made_and_equal) (n := 63) (k := 11) (x := "_law_script") (CX := L2.CX0) rfl (by decide) (by kernel_rfl) ⟨rfl, by decide, by decide⟩ ?F (fun _ _ _ _ z => z)
    intro w mg fa h Y G hmg0
    obtain ⟨K, KX, c, cx⟩ := Y
    have hmg : mg ("law" : PySem.Str) = some (.ref fa) := by
      have e : (HandSHeadRun.topDef (OpenLaw.row PySem.Challenge.rw_unitwants_k04_units_made_and_equal).prog 17).name = ("law" : PySem.Str) := by kernel_rfl
      rw [← e]
      exact hmg0
    obtain ⟨fd, hb, hF⟩ := K04.facts (P := (PySem.Challenge.rw_unitwants_k04_units_made_and_equal).prog) (w := w) KX G hmg c cx
    exact ⟨K, fd, K04.sp_law K, KX, hb, fun H a ns hl _ hS => ⟨a, ns, rfl, hS, hl, fun _ => rfl⟩, hF⟩
