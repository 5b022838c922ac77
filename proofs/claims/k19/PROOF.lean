import PyProof.Rows.All
import Wide.All
import OpenK.AllK
import Wide.FinOn
import KE.KStateDown
import HandS.ForMost
import HandS.More
import HandS.WordsExc
import HandS.Defaults
import HandS.MakeKwOnly
import HandS.IsInst
import HandS.FStr
import HandS.Walk
import HandS.TupAny
import HandS.SortKw
import HandS.OwnEq
import KE.KFmtOwn
import KE.DataMinMax
import KE.DatumOrd
import KE.SortData
import HandS.Deep
import HandS.SetKeys
import HandS.DictComp
import HandS.Conv
import HandS.Style
import HandS.Evl
import HandS.Head0
import HandS.Head1
import HandS.Head2
import HandS.HeadEnd
import HandS.HeadHook1
import HandS.HeadHook2
import PySem.Challenge.RW_unitwants_k19_fits
import HandS.TryOnly
set_option Elab.async false
set_option linter.all false
set_option maxRecDepth 100000
set_option maxHeartbeats 4000000
/-! own layer: heaps, rules that lacked, the bag of draws -/
namespace UW
open PySem PySem.Spec PyProof.Rows L2

/-! ### heaps -/
theorem same_upd {H : Hp} {p : Addr} {o : HO} (h : H p = none) : Same H (upd H p o) := fun b x e => by
  rw [upd_ne (ne_of_none e h)]
  exact e
theorem new_at {H H2 : Hp} {p : Addr} {o : HO} (e : upd H p o = H2) : H2 p = some o := by
  rw [← e]
  exact upd_same
theorem new_same {H H2 : Hp} {p : Addr} {o : HO} (e : upd H p o = H2) (h : H p = none) : Same H H2 := by
  rw [← e]
  exact same_upd h
/-- all but p is as it was -/
def Kp (p : Addr) (H H' : Hp) : Prop := ∀ c o, H c = some o → c ≠ p → H' c = some o
theorem Kp.refl (p : Addr) (H : Hp) : Kp p H H := fun _ _ h _ => h
theorem Kp.trans {p : Addr} {H H1 H2 : Hp} (a : Kp p H H1) (b : Kp p H1 H2) : Kp p H H2 := fun c o h n => b c o (a c o h n) n
theorem Kp.of {p : Addr} {H H' : Hp} (s : Same H H') : Kp p H H' := fun c o h _ => s c o h
theorem Kp.same {p : Addr} {H H1 H2 : Hp} (a : Kp p H H1) (b : Same H1 H2) : Kp p H H2 := a.trans (.of b)
theorem mut_keep {H H2 : Hp} {p : Addr} {o : HO} (e : upd H p o = H2) : Kp p H H2 := fun c x h n => by
  rw [← e, upd_ne n]
  exact h
/-- an object that H did not know has changed -/
theorem Kp.own {p q : Addr} {H H1 H2 : Hp} (a : Kp p H H1) (b : Kp q H1 H2) (n : H q = none) : Kp p H H2 := fun c o h m => b c o (a c o h m) (ne_of_none h n)
theorem Same.own {q : Addr} {H H1 H2 : Hp} (a : Same H H1) (b : Kp q H1 H2) (n : H q = none) : Same H H2 := fun c o h => b c o (a c o h) (ne_of_none h n)
theorem Kp.free {p q : Addr} {H H' : Hp} (a : Kp p H H') (h : H' q = none) (n : q ≠ p) : H q = none := by
  cases e : H q with
  | none => rfl
  | some o =>
    rw [a q o e n] at h
    cases h
theorem Kp.seq {K : PySem.W.Frag} {p a : Addr} {H H' : Hp} {xs : List V} (k : Kp p H H') (n : a ≠ p) (h : SqL K H a xs) : SqL K H' a xs := by
  rcases h with (h | ⟨o, h⟩) | h
  · exact .inl (.inl (k _ _ h n))
  · exact .inl (.inr ⟨o, k _ _ h n⟩)
  · exact .inr h
theorem ne_some {H : Hp} {a b : Addr} {o : HO} (h : H a = some o) (n : H b = none) : a ≠ b := fun e => by
  rw [e, n] at h
  cases h

/-! ### rules that lacked -/
section
variable {X : Cx}
def CPowL (i j : Int) : Prop := 0 ≤ j ∧ j ≤ 100 ∧ i.natAbs < 2 ^ 1000
theorem op_powL : OpR X (binaryOp .Pow) (rI CPowL fun i j => .int (i ^ j.toNat)) := opI fun i j _ _ _ _ _ hc q => by
  obtain ⟨h1, h2, h3⟩ := hc
  have b := intBits_le h3
  refine pow_int h1 ?_ q
  have b' : (Builtin.Int.intBits i : Int) ≤ 1000 := by exact_mod_cast b
  have b0 : (0 : Int) ≤ (Builtin.Int.intBits i : Int) := Int.natCast_nonneg _
  have := Int.mul_le_mul b' h2 h1 (by decide)
  exact Int.le_trans this (by decide)
def ipC (C : Int → Int → Prop) (f : Int → Int → Int) : TIp := fun x y H Q => ∃ i j, x = .int i ∧ y = .int j ∧ C i j ∧ Q (.int (f i j)) H
theorem ip_mul : PIp X .Mult (ipC CMul fun i j => i * j) := by
  intro pins s σ H x y v u Q I r1 r2 h
  obtain ⟨i, j, e1, e2, hc, q⟩ := h
  subst e1; subst e2
  obtain ⟨t, rfl⟩ := r1
  obtain ⟨t', rfl⟩ := r2
  exact imul_int ⟨.int _, H, I.tok _, ⟨_, rfl⟩, q⟩ hc.ok
theorem vals_take {vs : List V} {us : List Value} (h : Vals vs us) : ∀ n, Vals (vs.take n) (us.take n) := by
  induction h with
  | nil => intro n; rw [List.take_nil, List.take_nil]; exact .nil
  | cons r _ ih =>
    intro n
    cases n with
    | zero => exact .nil
    | succ n => exact .cons r (ih n)
/-- f(k = v, ..) -/
theorem pe_callN0 {CX : CXT} {k : Nat} {f : Addr} {fd : FuncData} {ps ks : List Str} {sp : Sp} {E : XK} {x : Str} {p pos : Pos} {kws : List Keyword} {tk : TA} {g : List Value → List Value → List Value} {gV : List V → List V → List V}
    (F : FnOk X.prog X.w X.K X.mg X.base CX k f fd ps sp) (hr : Room k X.A) (hg : Gl X x) (hm : X.mg x = some (.ref f)) (hk : PySem.W.keepIn X.K (.ref f) = true) (hb : KBn X.K fd ps 0 ks g gV) (hx : Passes CX X E) (hkw : PK X kws tk)
    (hall : (backToKw pos (keywordEach kws X.env)).all (·.1.isSome) = true := by rfl) (hks : (backToKw pos (keywordEach kws X.env)).filterMap (·.1) = ks := by rfl) (hdb : (x == ("__debug__" : Str)) = false := by decide)
    (hpl : ((backTo pos (starEach [] X.env)).any (·.1) || (backToKw pos (keywordEach kws X.env)).any (·.1.isNone)) = false := by rfl) :
    PE X (.Call (.Name x p) [] kws pos) (tCallN 0 ks.length sp gV E tNil tk) := by
  refine ⟨fun pins s σ H Q I h => ?_⟩
  refine wpAny_Call_Name_kw (ld_glob I hg hm ?_ hdb)
  refine PySem.W.callWith_KW0 (h₀ := X.base) I.ok.mod.kin hk hall ?_ hpl
  refine thn (hkw.run pos pins s σ H _ I h) fun ws s2 ⟨zs, H2, I2, rz, l1, l2, q2⟩ => ⟨I2.kIn, ?_⟩
  rw [hks]
  exact run_fnN (us := []) (vs := []) F hr hb hx I2 .nil rz rfl l2 q2
end

/-! ### the bag of draws -/
structure Bag (n : Nat) (H : Hp) (p : Addr) : Prop where
  ex : ∃ a b c : Int, H p = some (.lst [.int a, .int b, .int c]) ∧ 0 ≤ a ∧ 0 ≤ b ∧ b < 2 ^ 64 ∧ 0 ≤ c ∧ c ≤ n
theorem Bag.le {n m : Nat} {H : Hp} {p : Addr} (b : Bag n H p) (h : n ≤ m) : Bag m H p := by
  obtain ⟨a, x, c, h1, h2, h3, h4, h5, h6⟩ := b.ex
  exact ⟨a, x, c, h1, h2, h3, h4, h5, by omega⟩
theorem Bag.same {n : Nat} {H H' : Hp} {p : Addr} (b : Bag n H p) (s : Same H H') : Bag n H' p := by
  obtain ⟨a, x, c, h1, h⟩ := b.ex
  exact ⟨a, x, c, s _ _ h1, h⟩
theorem Bag.keep {n : Nat} {H H' : Hp} {p q : Addr} (b : Bag n H p) (s : Kp q H H') (ne : p ≠ q) : Bag n H' p := by
  obtain ⟨a, x, c, h1, h⟩ := b.ex
  exact ⟨a, x, c, s _ _ h1 ne, h⟩
theorem Bag.ne {n : Nat} {H : Hp} {p q : Addr} (b : Bag n H p) (h : H q = none) : p ≠ q := by
  obtain ⟨a, x, c, h1, _⟩ := b.ex
  exact ne_some h1 h
theorem Bag.some {n : Nat} {H : Hp} {p : Addr} (b : Bag n H p) : ∃ o, H p = some o := by
  obtain ⟨a, x, c, h1, _⟩ := b.ex
  exact ⟨_, h1⟩
/-- the five numbers of a rule within their bounds -/
structure Five (f m t b s : Int) : Prop where
  f1 : 1 ≤ f
  f2 : f ≤ 1000
  m1 : 1 ≤ m
  m2 : m ≤ 10
  t1 : 1 ≤ t
  t2 : t ≤ 1000000
  b1 : 0 ≤ b
  b2 : b ≤ 20
  s1 : 0 ≤ s
  s2 : s ≤ 1000000
end UW
namespace UW
open PySem L2
/-- for i, x in enumerate(xs), both names plain -/
theorem for_enum2 {K : PySem.W.Frag} {a : Addr} {xs : List V} {i j : Nat} {tb : TS} {D : Ends} {σ : St} {H : Hp} (Pv : Nat → St → Hp → Prop) (h0 : Pv 0 σ H) (hl : ∀ k σ H, k ≤ xs.length → Pv k σ H → SqL K H a xs)
    (hs : ∀ k x σ H H2, xs[k]? = some x → Pv k σ H → Same H H2 → tb { D with nx := Pv (k + 1), ct := Pv (k + 1), bk := D.nx } ((σ.set i (some (.int (k : Nat)))).set j (some x)) H2) (hd : ∀ σ H, Pv xs.length σ H → D.nx σ H) :
    ∃ W : Nat → Nat → St → Hp → Prop, (∃ m, W 0 m σ H) ∧ ∀ k m σ H, W k m σ H →
      ((Ite K a).stop k H ∧ D.nx σ H) ∨ ((Ite K a).go k H ∧ ∃ N : St → Hp → Prop, (∀ σ' H', N σ' H' → ∃ m', m' < m ∧ W (k + 1) m' σ' H') ∧ ∀ x H', (Ite K a).yld k H x H' → gTup K 2 (gCons (gName i) (gCons (gName j) gNil)) x σ H' fun σ2 H2 => tb { D with nx := N, ct := N, bk := D.nx } σ2 H2) := by
  refine for_it walk_enum Pv h0 hl (fun k v σ H H' hk p y => ?_) hd
  obtain ⟨T, x, y, rfl, nT, rfl, e1, e2⟩ := y
  cases e1
  exact ⟨T, _, rfl, .inl (.inl upd_same), rfl, _, _, rfl, _, _, rfl, rfl, hs k y σ H _ e2 p (same_upd nT)⟩
/-- one item of a short list by its place -/
theorem at0 {α : Type} {a : α} {r : List α} : atI (a :: r) 0 = some a := atI_nat (j := 0) rfl
theorem at1 {α : Type} {a b : α} {r : List α} : atI (a :: b :: r) 1 = some b := atI_nat (j := 1) rfl
theorem at2 {α : Type} {a b c : α} {r : List α} : atI (a :: b :: c :: r) 2 = some c := atI_nat (j := 2) rfl
theorem at3 {α : Type} {a b c d : α} {r : List α} : atI (a :: b :: c :: d :: r) 3 = some d := atI_nat (j := 3) rfl
theorem at4 {α : Type} {a b c d e : α} {r : List α} : atI (a :: b :: c :: d :: e :: r) 4 = some e := atI_nat (j := 4) rfl
end UW
namespace UW
open PySem L2
theorem bag_made {H : Hp} {p : Addr} {c k : Int} {b : Bool} (h0 : 0 ≤ k) (h1 : k ≤ 1000) : Bag 0 (upd H p (.lst [.int ((if c < 0 then -c else c) * (if b = true then 1 else 0)), .int (c % (10 ^ (18 : Int).toNat + 9) + 1299709 * k), .int 0])) p := by
  refine ⟨_, _, _, upd_same, ?_, ?_, ?_, Int.le_refl _, Int.le_refl _⟩
  · have : (0 : Int) ≤ if c < 0 then -c else c := by split <;> omega
    cases b
    · simp
    · simpa using this
  · have e : (10 ^ (18 : Int).toNat + 9 : Int) = 1000000000000000009 := by decide
    rw [e]
    omega
  · have e : (10 ^ (18 : Int).toNat + 9 : Int) = 1000000000000000009 := by decide
    rw [e]
    omega
end UW
namespace UW
open PySem L2
theorem cmul_b {i : Int} {b : Bool} : CMul i (if b = true then 1 else 0) := by
  cases b
  · exact .inr ⟨by decide, by decide⟩
  · exact .inr ⟨by decide, by decide⟩
theorem pow10 {j : Int} (h0 : 0 ≤ j := by decide) (h1 : j ≤ 100 := by decide) : CPowL 10 j :=
  ⟨h0, h1, Nat.lt_of_lt_of_le (show (10 : Int).natAbs < 2 ^ 4 by decide) (Nat.pow_le_pow_right (by decide) (by decide))⟩
/-- the primes of a draw -/
abbrev primes : List V := [.int 2147483647, .int 2147483629, .int 2147483587, .int 2147483579, .int 2147483563, .int 2147483549, .int 2147483543, .int 2147483497]
theorem prime_at (c : Int) : ∃ p : Int, atI primes (c % 8) = some (.int p) ∧ 0 < p ∧ p < 2147483648 := by
  have h0 : 0 ≤ c % 8 := Int.emod_nonneg _ (by decide)
  have h1 : c % 8 < 8 := Int.emod_lt_of_pos _ (by decide)
  generalize c % 8 = d at h0 h1
  obtain ⟨k, rfl⟩ := Int.eq_ofNat_of_zero_le h0
  have hk : k < 8 := by omega
  match k, hk with
  | 0, _ => exact ⟨_, atI_nat (j := 0) rfl, by decide, by decide⟩
  | 1, _ => exact ⟨_, atI_nat (j := 1) rfl, by decide, by decide⟩
  | 2, _ => exact ⟨_, atI_nat (j := 2) rfl, by decide, by decide⟩
  | 3, _ => exact ⟨_, atI_nat (j := 3) rfl, by decide, by decide⟩
  | 4, _ => exact ⟨_, atI_nat (j := 4) rfl, by decide, by decide⟩
  | 5, _ => exact ⟨_, atI_nat (j := 5) rfl, by decide, by decide⟩
  | 6, _ => exact ⟨_, atI_nat (j := 6) rfl, by decide, by decide⟩
  | 7, _ => exact ⟨_, atI_nat (j := 7) rfl, by decide, by decide⟩
theorem basis_small {b c : Int} (h0 : 0 ≤ b) (h1 : b < 2 ^ 64) (h2 : 0 ≤ c) (h3 : c < 2000000000) : (b * (2 * c + 1) + 7919 * c * c + 29).natAbs < 2 ^ 1000 := by
  have e1 : b * (2 * c + 1) ≤ 2 ^ 64 * (2 * 2000000000 + 1) := Int.mul_le_mul (by omega) (by omega) (by omega) (by decide)
  have e2 : 7919 * c * c ≤ 7919 * 2000000000 * 2000000000 := Int.mul_le_mul (by omega) (by omega) h2 (by decide)
  have e3 : 0 ≤ b * (2 * c + 1) := Int.mul_nonneg h0 (by omega)
  have e4 : 0 ≤ 7919 * c * c := Int.mul_nonneg (by omega) h2
  refine Nat.lt_of_lt_of_le (m := 2 ^ 200) ?_ (Nat.pow_le_pow_right (by decide) (by decide))
  have e5 : b * (2 * c + 1) + 7919 * c * c + 29 < 2 ^ 200 := by
    have : (2 ^ 64 * (2 * 2000000000 + 1) + 7919 * 2000000000 * 2000000000 + 29 : Int) < 2 ^ 200 := by decide
    omega
  omega
end UW
namespace UW
open PySem L2
/-- a draw: a number from 0 to below a size; the bag alone has changed -/
@[irreducible] def spTake : Sp := fun vs H Q _ => ∃ (p : Addr) (z : Int) (n : Nat), vs = [.ref p, .int z] ∧ Bag n H p ∧ 0 < z ∧ z < 1073741824 ∧ n < 1000000000 ∧
  ∀ (r : Int) H', 0 ≤ r → r < z → Bag (n + 1) H' p → Kp p H H' → Q (.int r) H'
theorem take_of {H : Hp} {p : Addr} {n : Nat} {z : Int} {Q : VK} {E : XK} (B : Bag n H p) (h0 : 0 < z) (h1 : z < 1073741824) (hn : n < 1000000000)
    (q : ∀ (r : Int) H', 0 ≤ r → r < z → Bag (n + 1) H' p → Kp p H H' → Q (.int r) H') : spTake [.ref p, .int z] H Q E := by
  unfold spTake
  exact ⟨p, z, n, rfl, B, h0, h1, hn, q⟩
theorem take_un {vs : List V} {H : Hp} {Q : VK} {E : XK} (h : spTake vs H Q E) : ∃ (p : Addr) (z : Int) (n : Nat), vs = [.ref p, .int z] ∧ Bag n H p ∧ 0 < z ∧ z < 1073741824 ∧ n < 1000000000 ∧
    ∀ (r : Int) H', 0 ≤ r → r < z → Bag (n + 1) H' p → Kp p H H' → Q (.int r) H' := by
  unfold spTake at h
  exact h
/-- take(bag, [z1, ..][take(bag, k)]), the menu just laid at l -/
theorem take_menu {K : PySem.W.Frag} {H : Hp} {p l : Addr} {n : Nat} {zs : List Int} {k : Int} {Q : VK} {E E' : XK} (B : Bag n H p) (hn : n < 900000000) (hl : H l = none) (hk : k = (zs.length : Int)) (hz0 : 0 < zs.length) (hz1 : zs.length < 1000) (hz : ∀ z ∈ zs, 0 < z ∧ z < 1073741824)
    (q : ∀ (z r : Int) H', z ∈ zs → 0 ≤ r → r < z → Bag (n + 2) H' p → Kp p H H' → Q (.int r) H') :
    spTake [.ref p, .int k] (upd H l (.lst (zs.map V.int))) (fun v H2 => rIxL K (.ref l) v H2 fun w H3 => spTake [.ref p, w] H3 Q E) E' := by
  subst hk
  generalize hE : upd H l _ = H1
  have k1 := new_at hE
  have s1 := new_same hE hl
  have npl := B.ne hl
  refine take_of (B.same s1) (by omega) (by omega) (by omega) fun r H2 r0 r1 B2 kp2 => ?_
  obtain ⟨j, rfl⟩ := Int.eq_ofNat_of_zero_le r0
  have hj : j < zs.length := by omega
  have hm : zs[j] ∈ zs := List.getElem_mem hj
  refine ⟨l, _, _, .int zs[j], rfl, rfl, SqL.of (kp2 _ _ k1 npl.symm), atI_nat (by rw [List.getElem?_map, List.getElem?_eq_getElem hj]; rfl), ?_⟩
  refine take_of B2 (hz _ hm).1 (hz _ hm).2 (by omega) fun r2 H3 q0 q1 B3 kp3 => ?_
  exact q _ r2 H3 hm q0 q1 B3 ((Kp.of s1).trans (kp2.trans kp3))
end UW
namespace UW
open PySem L2
section
variable {X : Cx}
/-- a statement, then the rest, with a word between -/
def tMid (t u : TS) : TS := fun D σ H => ∃ M : L2.St → Hp → Prop, t { D with nx := M } σ H ∧ ∀ σ' H', M σ' H' → u D σ' H'
theorem pss_mid {st : Stmt} {rest : List Stmt} {t u : TS} (h1 : PS X st t) (h2 : PSs X rest u) : PSs X (st :: rest) (tMid t u) := by
  refine ⟨fun pins s σ H D I h => ?_⟩
  obtain ⟨M, hm, hu⟩ := h
  refine wpAny_execs_cons (thn (h1.run pins s σ H { D with nx := M } I hm) fun f s1 q => ?_)
  cases f with
  | next =>
    obtain ⟨σ', H', I', q⟩ := q
    exact h2.run pins s1 σ' H' D I' (hu σ' H' q)
  | ret v => exact q
  | brk => exact q
  | cont => exact q
/-- an expression with a word behind it -/
def tMidE (t : TE) : TE := fun σ H Q => ∃ M : VK, t σ H M ∧ ∀ v H', M v H' → Q v H'
theorem pe_mid {e : Expr} {t : TE} (h : PE X e t) : PE X e (tMidE t) := by
  refine ⟨fun pins s σ H Q I ⟨M, hm, hq⟩ => ?_⟩
  exact thn (h.run pins s σ H M I hm) fun u s1 ⟨v, H', I', r, q⟩ => ⟨v, H', I', r, hq v H' q⟩
def tMidT (t : TT) : TT := fun σ H Q => ∃ M : Bool → Hp → Prop, t σ H M ∧ ∀ b H', M b H' → Q b H'
theorem pt_mid {e : Expr} {t : TT} (h : PT X e t) : PT X e (tMidT t) := by
  refine ⟨fun pins s σ H Q I ⟨M, hm, hq⟩ => ?_⟩
  exact thn (h.run pins s σ H M I hm) fun b s1 ⟨H', I', q⟩ => ⟨H', I', hq b H' q⟩
end
end UW
namespace UW
theorem iteY {c A B : Prop} [Decidable c] (hc : c) (h : A) : if c then A else B := by
  rw [if_pos hc]
  exact h
theorem iteN {c A B : Prop} [Decidable c] (hc : ¬ c) (h : B) : if c then A else B := by
  rw [if_neg hc]
  exact h
theorem iteYd {c A B : Prop} [Decidable c] (hc : c) (h : A) : if decide c = true then A else B := iteY (decide_eq_true hc) h
theorem iteNd {c A B : Prop} [Decidable c] (hc : ¬ c) (h : B) : if decide c = true then A else B := iteN (fun z => hc (of_decide_eq_true z)) h
end UW
namespace UW
open PySem L2
/-- None, truths, ints -/
def flatN : V → Bool
  | .non => true
  | .bl _ => true
  | .int _ => true
  | _ => false
def flatD : V → PyData
  | .non => .none
  | .bl b => .bool b
  | .int i => .int i
  | _ => .none
theorem dp_flat {K : PySem.W.Frag} {H : Hp} {v : V} (h : flatN v = true) : Dp K H v (flatD v) := by
  cases v with
  | non => exact .non
  | bl b => exact .bl b
  | int i => exact .int i
  | _ => cases h
theorem dpAll_flat {K : PySem.W.Frag} {H : Hp} : ∀ {xs : List V}, (∀ v ∈ xs, flatN v = true) → DpAll K H xs (xs.map flatD)
  | [], _ => .nil
  | v :: vs, h => .cons (dp_flat (h v (List.mem_cons_self ..))) (dpAll_flat fun x hx => h x (List.mem_cons_of_mem _ hx))
theorem lay_flat (v : V) : PyData.canLay0 (flatD v) = true ∧ PyData.depth (flatD v) = 0 := by
  cases v <;> exact ⟨by simp only [flatD, PyData.canLay0], by simp only [flatD, PyData.depth]⟩
theorem layAll_flat : ∀ xs : List V, PyData.canLayAll0 (xs.map flatD) = true ∧ PyData.depthAll (xs.map flatD) = 0
  | [] => ⟨by simp only [List.map_nil, PyData.canLayAll0], by simp only [List.map_nil, PyData.depthAll]⟩
  | v :: vs => by
    obtain ⟨a, b⟩ := lay_flat v
    obtain ⟨c, d⟩ := layAll_flat vs
    rw [List.map_cons]
    exact ⟨by simp only [PyData.canLayAll0, a, c, Bool.and_self], by simp only [PyData.depthAll, b, d, Nat.max_self]⟩
theorem shaped_flat (xs : List V) : SeqAt.shaped (.list (xs.map flatD)) = true := by
  obtain ⟨c, d⟩ := layAll_flat xs
  unfold SeqAt.shaped
  simp only [PyData.canLay0, PyData.depth, c, d]
  decide
theorem neD_same {K : PySem.W.Frag} {H : Hp} {a b : Addr} {xs : List V} {Q : VK} (h1 : SqL K H a xs) (h2 : SqL K H b xs) (hf : ∀ v ∈ xs, flatN v = true) (q : Q (.bl false) H) : rNeD K (.ref a) (.ref b) H Q := by
  refine ⟨_, _, .lst h1 (dpAll_flat hf), .lst h2 (dpAll_flat hf), shaped_flat xs, shaped_flat xs, ?_⟩
  have e : PyData.eqv (.list (xs.map flatD)) (.list (xs.map flatD)) = true := SeqAt.eqv_refl _ (by simp only [PyData.canLay0]; exact (layAll_flat xs).1)
  rw [e]
  exact q
end UW
namespace UW
open PySem L2
theorem yes_of {σ : L2.St} {H : Hp} {Q : Bool → Hp → Prop} (h : Q true H) : tYes σ H Q := h
end UW
namespace UW
open PySem L2
/-- max(xs, default=d) of ints: some int -/
def rMaxD (K : PySem.W.Frag) : List V → List V → Hp → VK → Prop := fun vs zs H Q => ∃ (a : Addr) (ns : List Int) (d : Int), vs = [.ref a] ∧ zs = [.int d] ∧ SqL K H a (ns.map V.int) ∧ ∀ m : Int, Q (.int m) H
theorem ints_flatD (ns : List Int) : (ns.map V.int).map flatD = ns.map PyData.int := by
  rw [List.map_map]
  rfl
theorem cr_maxD {X : Cx} (hc : X.calm = true) (hu : X.A.units + 64 < cLine) : CallRK X (.builtin "max") [Str.ofString "default"] (rMaxD X.K) := by
  intro pins s σ H vs zs us ws Q I r rz h
  obtain ⟨a, ns, d, rfl, rfl, hs, q⟩ := h
  obtain ⟨its, rv, hl, _⟩ := I.list hs
  rw [Vals.ref1 r]
  obtain ⟨w1, rfl, t1, rfl⟩ := vals1 rz
  obtain ⟨as, hr⟩ := Dp.readsAll I ((ns.map V.int).map flatD) _ _ (dpAll_flat (K := X.K) (H := H) (xs := ns.map V.int) fun v hv => by
    obtain ⟨i, _, rfl⟩ := List.mem_map.mp hv
    rfl) rv
  have hd := (layAll_flat (ns.map V.int)).2
  refine PySem.W.max_list_default (I.ok.hd hc) hl.isList (vs := its.toArray) hr ⟨?_, ?_⟩ (by rw [hd]; omega) (fun _ h' tk hk => ⟨.int d, H, I.kept hk, ⟨_, rfl⟩, q d⟩) fun y ys i v h' tk bs _ hi _ hk => ?_
  · rw [ints_flatD]
    intro x hx y hy
    obtain ⟨i, _, rfl⟩ := List.mem_map.mp hx
    obtain ⟨j, _, rfl⟩ := List.mem_map.mp hy
    simp only [PySem.W.alike]
  · rw [ints_flatD]
    intro x hx
    obtain ⟨i, _, rfl⟩ := List.mem_map.mp hx
    intro z
    cases z
  · have hv : ∃ n t, v = .int n t := by
      have hi' : its[i]? = some v := by rw [← List.getElem?_toArray]; exact hi
      have : ∀ (vs : List V) (us : List Value) (i : Nat) (v : Value), Vals vs us → us[i]? = some v → ∃ x, vs[i]? = some x ∧ RelV x v := by
        intro vs us i v r
        induction r generalizing i with
        | nil => intro h; simp at h
        | cons r1 _ ih =>
          intro h
          cases i with
          | zero => cases h; exact ⟨_, rfl, r1⟩
          | succ i => exact ih i h
      obtain ⟨x, hx, rx⟩ := this _ _ _ _ rv hi'
      rw [List.getElem?_map] at hx
      cases e : ns[i]? with
      | none => rw [e] at hx; cases hx
      | some n =>
        rw [e] at hx
        cases hx
        obtain ⟨t, rfl⟩ := rx
        exact ⟨n, t, rfl⟩
    obtain ⟨n, t, rfl⟩ := hv
    exact ⟨.int n, H, I.kept hk, ⟨_, rfl⟩, q n⟩
end UW
namespace UW
open PySem L2
theorem ints_flat' (ts : List Int) : ∀ v ∈ ts.map V.int, flatN v = true := fun v hv => by
  obtain ⟨i, _, rfl⟩ := List.mem_map.mp hv
  rfl
theorem eqvAll_len : ∀ xs ys : List PyData, xs.length ≠ ys.length → PyData.eqvAll xs ys = false
  | [], [], h => absurd rfl h
  | [], _ :: _, _ => by simp only [PyData.eqvAll]
  | _ :: _, [], _ => by simp only [PyData.eqvAll]
  | x :: xs, y :: ys, h => by
    simp only [PyData.eqvAll]
    rw [eqvAll_len xs ys (fun e => h (by rw [List.length_cons, List.length_cons, e])), Bool.and_false]
theorem neD_diff {K : PySem.W.Frag} {H : Hp} {a b : Addr} {xs ys : List V} {Q : VK} (h1 : SqL K H a xs) (h2 : SqL K H b ys) (hf : ∀ v ∈ xs, flatN v = true) (hg : ∀ v ∈ ys, flatN v = true) (hl : xs.length ≠ ys.length) (q : Q (.bl true) H) : rNeD K (.ref a) (.ref b) H Q := by
  refine ⟨_, _, .lst h1 (dpAll_flat hf), .lst h2 (dpAll_flat hg), shaped_flat xs, shaped_flat ys, ?_⟩
  have e : PyData.eqv (.list (xs.map flatD)) (.list (ys.map flatD)) = false := by
    simp only [PyData.eqv]
    exact eqvAll_len _ _ (by rw [List.length_map, List.length_map]; exact hl)
  rw [e]
  exact q
theorem eqD_same {K : PySem.W.Frag} {H : Hp} {a b : Addr} {xs : List V} {Q : VK} (h1 : SqL K H a xs) (h2 : SqL K H b xs) (hf : ∀ v ∈ xs, flatN v = true) (q : Q (.bl true) H) : rEqD K (.ref a) (.ref b) H Q := by
  refine ⟨_, _, .lst h1 (dpAll_flat hf), .lst h2 (dpAll_flat hf), shaped_flat xs, shaped_flat xs, ?_⟩
  have e : PyData.eqv (.list (xs.map flatD)) (.list (xs.map flatD)) = true := SeqAt.eqv_refl _ (by simp only [PyData.canLay0]; exact (layAll_flat xs).1)
  rw [e]
  exact q
end UW
namespace UW
open PySem L2
theorem slA {K : PySem.W.Frag} {H : Hp} {a : Addr} {xs : List V} {lo hi : Option Int} {Q : VK} (h : SqT K H a xs) (q : ∀ p H', Same H H' → SqT K H' p (cutV xs lo hi) → Q (.ref p) H') : rSlA K (.ref a) lo hi H Q := by
  refine ⟨a, xs, rfl, h, fun e => ?_, fun _ p np => ?_⟩
  · refine q a H (Same.refl H) ?_
    have : cutV xs lo hi = xs := by
      unfold cutV
      rw [e.1, e.2, List.drop_zero, Nat.sub_zero, List.take_length]
    rw [this]
    exact h
  · exact q p _ (same_upd np) (SqT.of upd_same)
theorem catA {K : PySem.W.Frag} {H : Hp} {a b : Addr} {xs ys : List V} {Q : VK} (h : SqT K H a xs) (h2 : SqT K H b ys) (hl : xs.length + ys.length ≤ 1000) (q : ∀ p H', Same H H' → SqT K H' p (xs ++ ys) → Q (.ref p) H') : rCatA K (.ref a) (.ref b) H Q := by
  refine ⟨a, b, xs, ys, rfl, rfl, h, h2, Nat.le_trans hl (by decide), fun e => ?_, fun _ e => ?_, fun _ _ p np => ?_⟩
  · exact q b H (Same.refl H) (by rw [e]; exact h2)
  · exact q a H (Same.refl H) (by rw [e, List.append_nil]; exact h)
  · exact q p _ (same_upd np) (SqT.of upd_same)
end UW
namespace UW
open PySem L2
/-! ### names -/
/-- one to eight letters -/
def Nm (x : Str) : Prop := (∀ c ∈ x.cps.toList, 97 ≤ c ∧ c ≤ 122) ∧ 0 < x.length ∧ x.length ≤ 8
abbrev lettersS : Str := Str.ofString "abcdefghijklmnopqrstuvwxyz"
abbrev srettelS : Str := Str.ofString "zyxwvutsrqponmlkjihgfedcba"
theorem letters_tl : lettersS.cps.toList = (List.range 26).map (97 + ·) := by decide +kernel
theorem srettel_tl : srettelS.cps.toList = (List.range 26).map (122 - ·) := by decide +kernel
theorem letters_size : lettersS.cps.size = 26 := by decide +kernel
theorem srettel_size : srettelS.cps.size = 26 := by decide +kernel
theorem len_tl' (x : Str) : x.length = x.cps.toList.length := TL.len_tl x
theorem tl_app (x y : Str) : (x ++ y).cps.toList = x.cps.toList ++ y.cps.toList := TL.tl_append x y
theorem str_ext {x y : Str} (h : x.cps.toList = y.cps.toList) : x = y := TL.ext_tl h
theorem letter_at {r : Int} (h0 : 0 ≤ r) (h1 : r < 26) : ∃ c, atI lettersS.cps.toList r = some c ∧ 97 ≤ c ∧ c ≤ 122 := by
  obtain ⟨j, rfl⟩ := Int.eq_ofNat_of_zero_le h0
  have hj : j < 26 := by omega
  refine ⟨97 + j, atI_nat ?_, by omega, by omega⟩
  rw [letters_tl, List.getElem?_map, List.getElem?_range hj]
  rfl
theorem letters_get {i c : Nat} (h : lettersS.cps[i]? = some c) : i < 26 ∧ c = 97 + i := by
  rw [← Array.getElem?_toList, letters_tl, List.getElem?_map] at h
  by_cases hi : i < 26
  · rw [List.getElem?_range hi] at h
    exact ⟨hi, (Option.some.inj h).symm⟩
  · rw [List.getElem?_eq_none (by rw [List.length_range]; omega)] at h
    cases h
theorem srettel_get {i c : Nat} (h : srettelS.cps[i]? = some c) : i < 26 ∧ c = 122 - i := by
  rw [← Array.getElem?_toList, srettel_tl, List.getElem?_map] at h
  by_cases hi : i < 26
  · rw [List.getElem?_range hi] at h
    exact ⟨hi, (Option.some.inj h).symm⟩
  · rw [List.getElem?_eq_none (by rw [List.length_range]; omega)] at h
    cases h
theorem inV_str (w : Str) : ∀ xs : List Str, inV (.str w) (xs.map V.str) = decide (w ∈ xs)
  | [] => rfl
  | x :: xs => by
    have ih := inV_str w xs
    unfold inV at ih ⊢
    rw [List.map_cons, List.any_cons, ih]
    show (x == w || decide (w ∈ xs)) = decide (w ∈ x :: xs)
    by_cases h : x = w
    · subst h
      rw [beq_self_eq_true, Bool.true_or, decide_eq_true (List.mem_cons_self ..)]
    · rw [show (x == w) = false from beq_eq_false_iff_ne.mpr h, Bool.false_or]
      exact decide_eq_decide.mpr ⟨fun z => List.mem_cons_of_mem _ z, fun z => by
        rcases List.mem_cons.mp z with z | z
        · exact absurd z.symm h
        · exact z⟩
theorem strs_flat (xs : List Str) : (xs.map V.str).all flatV = true := by
  rw [List.all_eq_true]
  intro v hv
  obtain ⟨x, _, rfl⟩ := List.mem_map.mp hv
  rfl
theorem nodup_le {α : Type} [DecidableEq α] : ∀ (cs ds : List α), cs.Nodup → (∀ c ∈ cs, c ∈ ds) → cs.length ≤ ds.length
  | [], _, _, _ => Nat.zero_le _
  | c :: cs, ds, hn, h => by
    obtain ⟨h1, h2⟩ := List.nodup_cons.mp hn
    have hm := h c (List.mem_cons_self ..)
    have ih := nodup_le cs (ds.erase c) h2 fun x hx => by
      have hne : x ≠ c := fun e => h1 (e ▸ hx)
      exact (List.mem_erase_of_ne hne).mpr (h x (List.mem_cons_of_mem _ hx))
    rw [List.length_erase_of_mem hm] at ih
    have := List.length_pos_of_mem hm
    rw [List.length_cons]
    omega
theorem free_in {α : Type} [DecidableEq α] {cs ds : List α} (hn : cs.Nodup) (h : ds.length < cs.length) : ∃ c ∈ cs, c ∉ ds := by
  by_cases q : ∃ c ∈ cs, c ∉ ds
  · exact q
  · have := nodup_le cs ds hn fun c hc => by
      by_cases hd : c ∈ ds
      · exact hd
      · exact absurd ⟨c, hc, hd⟩ q
    omega
/-- the text without its first sign -/
abbrev tailS (w : Str) : Str := cutS w (some 1) none
theorem tailS_tl (w : Str) : (tailS w).cps.toList = w.cps.toList.drop 1 := by
  show (List.take _ _ : List Nat) = _
  rw [show HT.sIx w.length 0 (some 1) = min 1 w.length from HT.sIx_nat w.length 0 1, HT.sIx_none]
  have hl := len_tl' w
  rw [hl]
  by_cases h : 1 ≤ w.cps.toList.length
  · rw [Nat.min_eq_left h, List.take_of_length_le (by rw [List.length_drop]; exact Nat.le_refl _)]
  · rw [Nat.min_eq_right (by omega), Nat.sub_self, List.take_zero, List.drop_of_length_le (by omega)]
theorem sign_app_tl (c : Nat) (x : Str) : ((⟨#[c]⟩ : Str) ++ x).cps.toList = c :: x.cps.toList := by
  rw [tl_app]
  rfl
/-- the 26 texts with another first letter -/
def cands (x : Str) : List Str := (List.range 26).map fun i => (⟨#[97 + i]⟩ : Str) ++ x
theorem cands_nodup (x : Str) : (cands x).Nodup := by
  unfold cands
  rw [List.nodup_iff_pairwise_ne, List.pairwise_map]
  refine List.Pairwise.imp ?_ List.nodup_range
  intro i j hij e
  have := congrArg (fun z : Str => z.cps.toList) e
  rw [show ((⟨#[97 + i]⟩ : Str) ++ x).cps.toList = (97 + i) :: x.cps.toList from sign_app_tl _ _, show ((⟨#[97 + j]⟩ : Str) ++ x).cps.toList = (97 + j) :: x.cps.toList from sign_app_tl _ _] at this
  injection this with h1 _
  omega
theorem cand_nm {w : Str} (h : Nm w) {i : Nat} (hi : i < 26) : Nm ((⟨#[97 + i]⟩ : Str) ++ tailS w) := by
  obtain ⟨h1, h2, h3⟩ := h
  have e := sign_app_tl (97 + i) (tailS w)
  have hl : ((⟨#[97 + i]⟩ : Str) ++ tailS w).length = w.length := by
    rw [len_tl', e, tailS_tl, List.length_cons, List.length_drop, ← len_tl']
    omega
  refine ⟨fun c hc => ?_, by omega, by omega⟩
  rw [e, tailS_tl] at hc
  rcases List.mem_cons.mp hc with rfl | hc
  · omega
  · exact h1 c (List.mem_of_mem_drop hc)
theorem join_one {ys : List Str} (h : ∀ y ∈ ys, ∃ c, y = ⟨#[c]⟩ ∧ 97 ≤ c ∧ c ≤ 122) (h0 : 0 < ys.length) (h8 : ys.length ≤ 8) : Nm (Txt.join (Str.ofString "") ys) := by
  have key : ∀ ys : List Str, (∀ y ∈ ys, ∃ c, y = ⟨#[c]⟩ ∧ 97 ≤ c ∧ c ≤ 122) → (Str.join (Str.ofString "") ys).cps.toList.length = ys.length ∧ ∀ c ∈ (Str.join (Str.ofString "") ys).cps.toList, 97 ≤ c ∧ c ≤ 122 := by
    intro ys
    induction ys with
    | nil => exact fun _ => ⟨rfl, fun c hc => by cases hc⟩
    | cons y ys ih =>
      intro h
      obtain ⟨c, rfl, h1, h2⟩ := h y (List.mem_cons_self ..)
      cases ys with
      | nil =>
        refine ⟨rfl, fun d hd => ?_⟩
        have hd' : d ∈ [c] := hd
        rw [List.mem_singleton.mp hd']
        exact ⟨h1, h2⟩
      | cons z zs =>
        obtain ⟨i1, i2⟩ := ih fun y hy => h y (List.mem_cons_of_mem _ hy)
        have e : (Str.join (Str.ofString "") (⟨#[c]⟩ :: z :: zs)).cps.toList = c :: (Str.join (Str.ofString "") (z :: zs)).cps.toList := by
          show ((⟨#[c]⟩ : Str) ++ Str.ofString "" ++ Str.join (Str.ofString "") (z :: zs)).cps.toList = _
          rw [tl_app, tl_app]
          rfl
        rw [e]
        refine ⟨by rw [List.length_cons, i1]; rfl, fun d hd => ?_⟩
        rcases List.mem_cons.mp hd with rfl | hd
        · exact ⟨h1, h2⟩
        · exact i2 d hd
  obtain ⟨k1, k2⟩ := key ys h
  rw [TL.join_eq]
  exact ⟨k2, by rw [len_tl', k1]; exact h0, by rw [len_tl', k1]; exact h8⟩
end UW
namespace UW
theorem range_map_succ' {α : Type} (g : Nat → α) (n : Nat) : (List.range (n + 1)).map g = (List.range n).map g ++ [g n] := by
  rw [List.range_succ, List.map_append]
  rfl
end UW
namespace UW
open PySem L2
/-! ### lists and tuples of texts compared -/
theorem Nm.ok {x : Str} (h : Nm x) : PyData.strOk x = true := by
  unfold PyData.strOk
  rw [Array.all_eq_true']
  intro c hc
  have := (h.1 c (Array.mem_toList_iff.mpr hc)).2
  exact decide_eq_true (by omega)
theorem dpAll_strs {K : PySem.W.Frag} {H : Hp} : ∀ xs : List Str, DpAll K H (xs.map V.str) (xs.map PyData.str)
  | [] => .nil
  | x :: xs => .cons (.str x) (dpAll_strs xs)
theorem layAll_strs : ∀ {xs : List Str}, (∀ x ∈ xs, PyData.strOk x = true) → PyData.canLayAll0 (xs.map PyData.str) = true ∧ PyData.depthAll (xs.map PyData.str) = 0
  | [], _ => ⟨by simp only [List.map_nil, PyData.canLayAll0], by simp only [List.map_nil, PyData.depthAll]⟩
  | x :: xs, h => by
    obtain ⟨c, d⟩ := layAll_strs fun y hy => h y (List.mem_cons_of_mem _ hy)
    rw [List.map_cons]
    exact ⟨by simp only [PyData.canLayAll0, PyData.canLay0, h x (List.mem_cons_self ..), c, Bool.and_self], by simp only [PyData.depthAll, PyData.depth, d, Nat.max_self]⟩
theorem shaped_strs {xs : List Str} (h : ∀ x ∈ xs, PyData.strOk x = true) : SeqAt.shaped (.list (xs.map PyData.str)) = true := by
  obtain ⟨c, d⟩ := layAll_strs h
  unfold SeqAt.shaped
  simp only [PyData.canLay0, PyData.depth, c, d]
  decide
theorem eqvAll_strs : ∀ xs ys : List Str, PyData.eqvAll (xs.map PyData.str) (ys.map PyData.str) = decide (xs = ys)
  | [], [] => by simp only [List.map_nil, PyData.eqvAll]; rfl
  | [], y :: ys => by simp only [List.map_nil, List.map_cons, PyData.eqvAll]; rfl
  | x :: xs, [] => by simp only [List.map_nil, List.map_cons, PyData.eqvAll]; rfl
  | x :: xs, y :: ys => by
    simp only [List.map_cons, PyData.eqvAll, PyData.eqv]
    rw [eqvAll_strs xs ys]
    by_cases h : x = y
    · subst h
      rw [beq_self_eq_true, Bool.true_and]
      exact decide_eq_decide.mpr ⟨fun e => by rw [e], fun e => by injection e⟩
    · rw [show (x == y) = false from beq_eq_false_iff_ne.mpr h, Bool.false_and]
      exact (decide_eq_false fun e => h (by injection e)).symm
/-- xs != ys of texts -/
theorem neD_strs {K : PySem.W.Frag} {H : Hp} {a b : Addr} {xs ys : List Str} {Q : VK} (h1 : SqL K H a (xs.map V.str)) (h2 : SqL K H b (ys.map V.str)) (hx : ∀ x ∈ xs, PyData.strOk x = true) (hy : ∀ y ∈ ys, PyData.strOk y = true) (q : Q (.bl (!decide (xs = ys))) H) : rNeD K (.ref a) (.ref b) H Q := by
  refine ⟨_, _, .lst h1 (dpAll_strs xs), .lst h2 (dpAll_strs ys), shaped_strs hx, shaped_strs hy, ?_⟩
  have e : PyData.eqv (.list (xs.map PyData.str)) (.list (ys.map PyData.str)) = decide (xs = ys) := by
    simp only [PyData.eqv]
    exact eqvAll_strs xs ys
  rw [e]
  exact q
theorem seq_ix {r : Int} {n : Nat} (h0 : 0 ≤ r) (h1 : r < n) : seqIndex? r n = some r.toNat := (ixN_seq (by
  unfold ixN
  rw [if_pos h0, if_pos h1])).1
end UW
namespace UW
theorem perm_pick {α : Type} : ∀ (ls : List α) (k : Nat) (h : k < ls.length), (ls[k] :: ls.eraseIdx k).Perm ls
  | [], _, h => absurd h (Nat.not_lt_zero _)
  | x :: xs, 0, _ => List.Perm.refl _
  | x :: xs, k + 1, h => by
    have hk : k < xs.length := by simpa using h
    have ih := perm_pick xs k hk
    show (xs[k] :: x :: xs.eraseIdx k).Perm (x :: xs)
    exact (List.Perm.swap _ _ _).trans (List.Perm.cons x ih)
theorem map_pick {α β : Type} (f : α → β) : ∀ (ls : List α) (k : Nat), (ls.map f).eraseIdx k = (ls.eraseIdx k).map f
  | [], _ => rfl
  | x :: xs, 0 => rfl
  | x :: xs, k + 1 => by
    show f x :: (xs.map f).eraseIdx k = f x :: (xs.eraseIdx k).map f
    rw [map_pick f xs k]
end UW
namespace UW
open PySem L2
theorem cutV_to {xs : List V} {n : Nat} : cutV xs none (some (n : Int)) = xs.take n := by
  unfold cutV
  rw [show HT.sIx xs.length xs.length (some (n : Int)) = min n xs.length from HT.sIx_nat xs.length xs.length n, HT.sIx_none]
  show (xs.drop 0).take (min n xs.length - 0) = xs.take n
  rw [List.drop_zero, Nat.sub_zero]
  by_cases h : n ≤ xs.length
  · rw [Nat.min_eq_left h]
  · rw [Nat.min_eq_right (by omega), List.take_length, List.take_of_length_le (by omega)]
theorem menu_ix {zs : List Int} {r : Int} (h0 : 0 ≤ r) (h1 : r < zs.length) : ∃ z, z ∈ zs ∧ atI (zs.map V.int) r = some (.int z) := by
  obtain ⟨j, rfl⟩ := Int.eq_ofNat_of_zero_le h0
  have hj : j < zs.length := by omega
  exact ⟨zs[j], List.getElem_mem hj, atI_nat (by rw [List.getElem?_map, List.getElem?_eq_getElem hj]; rfl)⟩
theorem menu_str {zs : List Str} {r : Int} (h0 : 0 ≤ r) (h1 : r < zs.length) : ∃ z, z ∈ zs ∧ atI (zs.map V.str) r = some (.str z) := by
  obtain ⟨j, rfl⟩ := Int.eq_ofNat_of_zero_le h0
  have hj : j < zs.length := by omega
  exact ⟨zs[j], List.getElem_mem hj, atI_nat (by rw [List.getElem?_map, List.getElem?_eq_getElem hj]; rfl)⟩
/-! ### facts of units -/
/-- what a unit is made of -/
structure UF where
  kind : Str
  needs : List Str
  wants : List Str
  bars : List Str
  after : List Str
  opens : Option Str
  five : Option (Int × Int × Int × Int × Int)
deriving DecidableEq
def UF.named (u : UF) : List Str := u.needs ++ u.wants ++ u.bars ++ u.after ++ u.opens.toList
def optV : Option Str → V
  | none => .non
  | some x => .str x
def FiveAt (H : Hp) : V → Option (Int × Int × Int × Int × Int) → Prop
  | v, none => v = .non
  | v, some (f, m, t, b, s) => ∃ p, v = .ref p ∧ H p = some (.tup [.int f, .int m, .int t, .int b, .int s]) ∧ Five f m t b s
/-- the seven facts stand in a tuple -/
def FactAt (H : Hp) (v : V) (u : UF) : Prop := ∃ (t n w b a : Addr) (g : V), v = .ref t ∧ H t = some (.tup [.str u.kind, .ref n, .ref w, .ref b, .ref a, optV u.opens, g]) ∧
  H n = some (.tup (u.needs.map V.str)) ∧ H w = some (.tup (u.wants.map V.str)) ∧ H b = some (.tup (u.bars.map V.str)) ∧ H a = some (.tup (u.after.map V.str)) ∧ FiveAt H g u.five
def NotTup (H : Hp) (q : Addr) : Prop := ∀ xs, H q ≠ some (.tup xs)
theorem NotTup.ne {H : Hp} {q c : Addr} {xs : List V} (h : NotTup H q) (e : H c = some (.tup xs)) : c ≠ q := fun z => h xs (z ▸ e)
theorem NotTup.lst {H : Hp} {q : Addr} {xs : List V} (h : H q = some (.lst xs)) : NotTup H q := fun ys e => by rw [h] at e; cases e
theorem NotTup.dK {H : Hp} {q : Addr} {kvs : List (Key × V)} (h : H q = some (.dK kvs)) : NotTup H q := fun ys e => by rw [h] at e; cases e
theorem NotTup.none {H : Hp} {q : Addr} (h : H q = Option.none) : NotTup H q := fun ys e => by rw [h] at e; cases e
theorem Bag.notTup {n : Nat} {H : Hp} {p : Addr} (b : Bag n H p) : NotTup H p := by
  obtain ⟨_, _, _, h, _⟩ := b.ex
  exact .lst h
theorem FiveAt.keep {H H' : Hp} {q : Addr} {v : V} {o : Option (Int × Int × Int × Int × Int)} (h : FiveAt H v o) (k : Kp q H H') (n : NotTup H q) : FiveAt H' v o := by
  cases o with
  | none => exact h
  | some o =>
    obtain ⟨f, m, t, b, s⟩ := o
    obtain ⟨p, e, hp, F⟩ := h
    exact ⟨p, e, k _ _ hp (n.ne hp), F⟩
theorem FactAt.keep {H H' : Hp} {q : Addr} {v : V} {u : UF} (h : FactAt H v u) (k : Kp q H H') (n : NotTup H q) : FactAt H' v u := by
  obtain ⟨t, a1, a2, a3, a4, g, e, h0, h1, h2, h3, h4, h5⟩ := h
  exact ⟨t, a1, a2, a3, a4, g, e, k _ _ h0 (n.ne h0), k _ _ h1 (n.ne h1), k _ _ h2 (n.ne h2), k _ _ h3 (n.ne h3), k _ _ h4 (n.ne h4), h5.keep k n⟩
theorem FiveAt.same {H H' : Hp} {v : V} {o : Option (Int × Int × Int × Int × Int)} (h : FiveAt H v o) (s : Same H H') : FiveAt H' v o := by
  cases o with
  | none => exact h
  | some o =>
    obtain ⟨f, m, t, b, s'⟩ := o
    obtain ⟨p, e, hp, F⟩ := h
    exact ⟨p, e, s _ _ hp, F⟩
theorem FactAt.same {H H' : Hp} {v : V} {u : UF} (h : FactAt H v u) (s : Same H H') : FactAt H' v u := by
  obtain ⟨t, a1, a2, a3, a4, g, e, h0, h1, h2, h3, h4, h5⟩ := h
  exact ⟨t, a1, a2, a3, a4, g, e, s _ _ h0, s _ _ h1, s _ _ h2, s _ _ h3, s _ _ h4, h5.same s⟩
/-- a dict of facts by names -/
inductive FactsAt (H : Hp) : List (Key × V) → List (Str × UF) → Prop
  | nil : FactsAt H [] []
  | snoc {kvs : List (Key × V)} {us : List (Str × UF)} {w : Str} {v : V} {u : UF} (h : FactsAt H kvs us) (e : FactAt H v u) : FactsAt H (kvs ++ [(Sum.inr w, v)]) (us ++ [(w, u)])
theorem FactsAt.keep {H H' : Hp} {q : Addr} {kvs : List (Key × V)} {us : List (Str × UF)} (h : FactsAt H kvs us) (k : Kp q H H') (n : NotTup H q) : FactsAt H' kvs us := by
  induction h with
  | nil => exact .nil
  | snoc _ e ih => exact .snoc ih (e.keep k n)
theorem FactsAt.same {H H' : Hp} {kvs : List (Key × V)} {us : List (Str × UF)} (h : FactsAt H kvs us) (s : Same H H') : FactsAt H' kvs us := by
  induction h with
  | nil => exact .nil
  | snoc _ e ih => exact .snoc ih (e.same s)
theorem FactsAt.len {H : Hp} {kvs : List (Key × V)} {us : List (Str × UF)} (h : FactsAt H kvs us) : kvs.length = us.length := by
  induction h with
  | nil => rfl
  | snoc _ _ ih => rw [List.length_append, List.length_append, ih]; rfl
theorem FactsAt.keys {H : Hp} {kvs : List (Key × V)} {us : List (Str × UF)} (h : FactsAt H kvs us) : kvs.map (·.1) = us.map fun p => (Sum.inr p.1 : Key) := by
  induction h with
  | nil => rfl
  | snoc _ _ ih => rw [List.map_append, List.map_append, ih]; rfl
theorem FactsAt.free {H : Hp} {kvs : List (Key × V)} {us : List (Str × UF)} (h : FactsAt H kvs us) {w : Str} (hw : w ∉ us.map (·.1)) : valV kvs (Sum.inr w : Key) = none := by
  induction h with
  | nil => rfl
  | @snoc kvs us w' v u h e ih =>
    rw [List.map_append] at hw
    have h1 : w ∉ us.map (·.1) := fun z => hw (List.mem_append_left _ z)
    have h2 : w ≠ w' := fun z => hw (List.mem_append_right _ (List.mem_singleton.mpr z))
    have q1 := ih h1
    have hv : ∀ kvs : List (Key × V), valV kvs (Sum.inr w : Key) = none → valV (kvs ++ [((Sum.inr w' : Key), v)]) (Sum.inr w : Key) = none := by
      intro kvs
      induction kvs with
      | nil => exact fun _ => valV_neg (fun z => h2 (by cases z; rfl))
      | cons p r ih =>
        intro hn
        by_cases hp : p.1 = (Sum.inr w : Key)
        · rw [valV_pos hp] at hn
          cases hn
        · rw [valV_neg hp] at hn
          rw [List.cons_append, valV_neg hp]
          exact ih hn
    exact hv kvs q1
theorem FactsAt.get {H : Hp} {kvs : List (Key × V)} {us : List (Str × UF)} (h : FactsAt H kvs us) (hn : (us.map (·.1)).Nodup) : ∀ p ∈ us, ∃ v, valV kvs (Sum.inr p.1 : Key) = some v ∧ FactAt H v p.2 := by
  induction h with
  | nil => intro p hp; cases hp
  | @snoc kvs us w v u h e ih =>
    intro p hp
    rw [List.map_append] at hn
    obtain ⟨n1, _, n3⟩ := List.nodup_append.mp hn
    have hw : w ∉ us.map (·.1) := fun z => n3 w z w (List.mem_singleton.mpr rfl) rfl
    have hf := h.free hw
    rw [valV_snoc _ _ _ _ hf]
    rcases List.mem_append.mp hp with hp1 | hp
    · obtain ⟨v', hv', ha⟩ := ih n1 p hp1
      have hne : ¬ (Sum.inr p.1 : Key) = Sum.inr w := fun z => hw (by cases z; exact List.mem_map.mpr ⟨p, hp1, rfl⟩)
      exact ⟨v', by rw [if_neg hne]; exact hv', ha⟩
    · have e' := List.mem_singleton.mp hp
      subst e'
      exact ⟨v, by rw [if_pos rfl], e⟩
/-- what a drawn unit is -/
structure UOk (ns ss : List Str) (w : Str) (u : UF) : Prop where
  kd : u.kind = Str.ofString "work" ∨ u.kind = Str.ofString "goal" ∨ u.kind = Str.ofString "door"
  nN : u.needs.Nodup
  nW : u.wants.Nodup
  nB : u.bars.Nodup
  nA : u.after.Nodup
  lN : u.needs.length ≤ 8
  lW : u.wants.length ≤ 8
  lB : u.bars.length ≤ 8
  lA : u.after.length ≤ 8
  mem : ∀ x ∈ u.named, (x ∈ ns ∨ x ∈ ss) ∧ x ≠ w
  op1 : u.kind = Str.ofString "door" → u.opens ≠ none
  op2 : u.kind ≠ Str.ofString "door" → u.opens = none
end UW

namespace UW
open PySem L2
theorem cutV_bit (ss : List Str) (b : Bool) : ∃ m : Nat, cutV (ss.map V.str) none (some (if b = true then 1 else 0)) = (ss.take m).map V.str := by
  cases b
  · exact ⟨0, by rw [List.map_take]; exact cutV_to (n := 0)⟩
  · exact ⟨1, by rw [List.map_take]; exact cutV_to (n := 1)⟩
theorem cutV_strs (ss : List Str) (n : Nat) : cutV (ss.map V.str) none (some (n : Int)) = (ss.take n).map V.str := by
  rw [List.map_take]
  exact cutV_to
def rcands (x : Str) : List Str := (List.range 26).map fun i => (⟨#[122 - i]⟩ : Str) ++ x
theorem rcands_nodup (x : Str) : (rcands x).Nodup := by
  unfold rcands
  rw [List.nodup_iff_pairwise_ne, List.pairwise_map]
  refine List.Pairwise.imp_of_mem ?_ List.pairwise_lt_range
  intro a b ha hb hab e
  have ha := List.mem_range.mp ha
  have hb := List.mem_range.mp hb
  have h := congrArg (fun z : Str => z.cps.toList) e
  simp only [sign_app_tl] at h
  injection h with h _
  omega
theorem rcand_nm {i : Nat} (hi : i < 26) : Nm ((⟨#[122 - i]⟩ : Str) ++ Str.ofString "zz") := by
  have e : ((⟨#[122 - i]⟩ : Str) ++ Str.ofString "zz").cps.toList = (122 - i) :: [122, 122] := by
    rw [sign_app_tl]
    have : (Str.ofString "zz").cps.toList = [122, 122] := by decide +kernel
    rw [this]
  refine ⟨fun c hc => ?_, ?_, ?_⟩
  · rw [e] at hc
    rcases List.mem_cons.mp hc with rfl | hc
    · omega
    · rcases List.mem_cons.mp hc with rfl | hc
      · omega
      · rw [List.mem_singleton.mp hc]
        omega
  · rw [len_tl', e]
    exact Nat.zero_lt_succ _
  · rw [len_tl', e]
    show 3 ≤ 8
    omega
theorem filter_free {α : Type} [DecidableEq α] {cs ds : List α} (hn : cs.Nodup) (h : ds.length < cs.length) : 0 < (cs.filter fun x => decide (x ∉ ds)).length := by
  obtain ⟨c, hc, hd⟩ := free_in hn h
  exact List.length_pos_of_mem (List.mem_filter.mpr ⟨hc, decide_eq_true hd⟩)
theorem take_filter_snoc {α : Type} (f : α → Bool) {xs : List α} {i : Nat} {x : α} (h : xs[i]? = some x) : (xs.take (i + 1)).filter f = (xs.take i).filter f ++ (if f x = true then [x] else []) := by
  rw [List.take_add_one, h, List.filter_append]
  show _ ++ List.filter f [x] = _
  cases hf : f x
  · rw [List.filter_cons_of_neg (by rw [hf]; exact Bool.false_ne_true), if_neg Bool.false_ne_true]
    rfl
  · rw [List.filter_cons_of_pos hf, if_pos rfl]
    rfl
theorem map_str_get {xs : List Str} {i : Nat} {x : V} (h : (xs.map V.str)[i]? = some x) : ∃ w, xs[i]? = some w ∧ x = .str w := by
  rw [List.getElem?_map] at h
  cases hx : xs[i]? with
  | none => rw [hx] at h; cases h
  | some w => rw [hx] at h; exact ⟨w, rfl, by injection h with h; exact h.symm⟩
end UW

namespace UW
open PySem L2
/-- [z1, ..][take(bag, k)], the menu just laid at l -/
theorem pick_menu {K : PySem.W.Frag} {H : Hp} {p l : Addr} {n : Nat} (zs : List V) {k : Int} {Q : VK} {E' : XK} (B : Bag n H p) (hn : n < 900000000) (hl : H l = none) (hk : k = (zs.length : Int)) (hz0 : 0 < zs.length) (hz1 : zs.length < 1000)
    (q : ∀ (z : V) H', z ∈ zs → Bag (n + 1) H' p → Kp p H H' → Q z H') :
    spTake [.ref p, .int k] (upd H l (.lst zs)) (fun v H2 => rIxL K (.ref l) v H2 Q) E' := by
  subst hk
  generalize hE : upd H l _ = H1
  have k1 := new_at hE
  have s1 := new_same hE hl
  have npl := B.ne hl
  refine take_of (B.same s1) (by omega) (by omega) (by omega) fun r H2 r0 r1 B2 kp2 => ?_
  obtain ⟨j, rfl⟩ := Int.eq_ofNat_of_zero_le r0
  have hj : j < zs.length := by omega
  refine ⟨l, _, _, zs[j], rfl, rfl, SqL.of (kp2 _ _ k1 npl.symm), atI_nat (List.getElem?_eq_getElem hj), ?_⟩
  exact q _ H2 (List.getElem_mem hj) B2 ((Kp.of s1).trans kp2)
theorem mix_ok {ns ss zs : List Str} {w : Str} (hn : ns.Nodup) (hs : ss.Nodup) (hm : ∀ x ∈ ns, Nm x) (ht : ∀ x ∈ ss, Nm x ∧ x ∉ ns) (h1 : ns.length ≤ 20) (h2 : ss.length ≤ 2) (hw : w ∈ ns) (hz : zs.Sublist ss) :
    ((ns.filter fun x => decide (x ≠ w)) ++ zs).Nodup ∧ ((ns.filter fun x => decide (x ≠ w)) ++ zs).length ≤ 100 ∧ (∀ x ∈ (ns.filter fun x => decide (x ≠ w)) ++ zs, Nm x) ∧ ∀ x ∈ (ns.filter fun x => decide (x ≠ w)) ++ zs, (x ∈ ns ∨ x ∈ ss) ∧ x ≠ w := by
  have key : ∀ x ∈ (ns.filter fun x => decide (x ≠ w)) ++ zs, Nm x ∧ (x ∈ ns ∨ x ∈ ss) ∧ x ≠ w := fun x hx => by
    rcases List.mem_append.mp hx with hx | hx
    · obtain ⟨a, b⟩ := List.mem_filter.mp hx
      exact ⟨hm x a, .inl a, of_decide_eq_true b⟩
    · have hx' := hz.subset hx
      exact ⟨(ht x hx').1, .inr hx', fun e => (ht x hx').2 (e ▸ hw)⟩
  refine ⟨List.nodup_append.mpr ⟨List.Nodup.sublist List.filter_sublist hn, List.Nodup.sublist hz hs, fun a ha b hb e => ?_⟩, ?_, fun x hx => (key x hx).1, fun x hx => (key x hx).2⟩
  · exact (ht b (hz.subset hb)).2 (e ▸ (List.mem_filter.mp ha).1)
  · rw [List.length_append]
    have := hz.length_le
    have := List.length_filter_le (fun x => decide (x ≠ w)) ns
    omega
end UW

namespace UW
open PySem L2
theorem tup_same {K : PySem.W.Frag} {H H' : Hp} {a : Addr} {xs : List V} (e : Same H H') (h : SqT K H a xs) : SqT K H' a xs := SqT.ext h e
/-- what isn't a tuple, nor a frozen one -/
def NotTp (H : Hp) (q : Addr) : Prop := ∀ xs, H q ≠ some (.tup xs) ∧ ∀ o, H q ≠ some (.frz o (.tup xs))
theorem NotTp.lst {H : Hp} {q : Addr} {xs : List V} (h : H q = some (.lst xs)) : NotTp H q := fun ys => ⟨(fun e => by rw [h] at e; cases e), (fun o e => by rw [h] at e; cases e)⟩
theorem NotTp.dK {H : Hp} {q : Addr} {xs : List (Key × V)} (h : H q = some (.dK xs)) : NotTp H q := fun ys => ⟨(fun e => by rw [h] at e; cases e), (fun o e => by rw [h] at e; cases e)⟩
theorem NotTp.ins {H : Hp} {q C dx : Addr} {fs : List (Str × V)} (h : H q = some (.ins C dx fs)) : NotTp H q := fun ys => ⟨(fun e => by rw [h] at e; cases e), (fun o e => by rw [h] at e; cases e)⟩
theorem Bag.notTp {n : Nat} {H : Hp} {p : Addr} (b : Bag n H p) : NotTp H p := by
  obtain ⟨_, _, _, h, _⟩ := b.ex
  exact .lst h
theorem Kp.tup {K : PySem.W.Frag} {H H' : Hp} {q a : Addr} {xs : List V} (k : Kp q H H') (n : NotTp H q) (h : SqT K H a xs) : SqT K H' a xs := by
  rcases h with (h | ⟨o, h⟩) | h
  · exact .inl (.inl (k _ _ h fun e => (n xs).1 (e ▸ h)))
  · exact .inl (.inr ⟨o, k _ _ h fun e => (n xs).2 o (e ▸ h)⟩)
  · exact .inr h
end UW

namespace UW
open PySem L2
theorem shaped_strsT {xs : List Str} (h : ∀ x ∈ xs, PyData.strOk x = true) : SeqAt.shaped (.tuple (xs.map PyData.str)) = true := by
  have := shaped_strs h
  unfold SeqAt.shaped at *
  simp only [PyData.canLay0, PyData.depth] at *
  exact this
theorem eqD_strsT {K : PySem.W.Frag} {H : Hp} {a b : Addr} {xs ys : List Str} {Q : VK} (h1 : SqT K H a (xs.map V.str)) (h2 : SqT K H b (ys.map V.str)) (hx : ∀ x ∈ xs, PyData.strOk x = true) (hy : ∀ y ∈ ys, PyData.strOk y = true) (q : Q (.bl (decide (xs = ys))) H) : rEqD K (.ref a) (.ref b) H Q := by
  refine ⟨_, _, .tup h1 (dpAll_strs xs), .tup h2 (dpAll_strs ys), shaped_strsT hx, shaped_strsT hy, ?_⟩
  have e : PyData.eqv (.tuple (xs.map PyData.str)) (.tuple (ys.map PyData.str)) = decide (xs = ys) := by
    simp only [PyData.eqv]
    exact eqvAll_strs xs ys
  rw [e]
  exact q
theorem dec_str {x y : Str} : decide (V.str x = V.str y) = decide (x = y) := decide_eq_decide.mpr ⟨fun e => by cases e; rfl, fun e => by rw [e]⟩
theorem dec_optV {x y : Option Str} : decide (optV x = optV y) = decide (x = y) := decide_eq_decide.mpr ⟨fun e => by
  cases x with
  | none => cases y with
    | none => rfl
    | some y => cases e
  | some x => cases y with
    | none => cases e
    | some y => cases e; rfl, fun e => by rw [e]⟩
theorem scal_optV (x y : Option Str) : scal (optV x) (optV y) = true := by
  cases x <;> cases y <;> rfl
end UW

namespace UW
open PySem L2
theorem neF {x : V} {A B : Prop} (h : B) : if (!decide (x = x)) = true then A else B := by
  rw [decide_eq_true rfl]
  exact iteF h
theorem eqv_strsT (xs : List Str) : PyData.eqv (.tuple (xs.map PyData.str)) (.tuple (xs.map PyData.str)) = true := by
  simp only [PyData.eqv]
  rw [eqvAll_strs]
  exact decide_eq_true rfl
theorem neD_quad {K : PySem.W.Frag} {H : Hp} {l l' a1 a2 a3 a4 b1 b2 b3 b4 : Addr} {x1 x2 x3 x4 : List Str} {Q : VK} (hl : SqL K H l [.ref a1, .ref a2, .ref a3, .ref a4]) (hl' : SqL K H l' [.ref b1, .ref b2, .ref b3, .ref b4])
    (h1 : SqT K H a1 (x1.map V.str)) (h2 : SqT K H a2 (x2.map V.str)) (h3 : SqT K H a3 (x3.map V.str)) (h4 : SqT K H a4 (x4.map V.str)) (g1 : SqT K H b1 (x1.map V.str)) (g2 : SqT K H b2 (x2.map V.str)) (g3 : SqT K H b3 (x3.map V.str)) (g4 : SqT K H b4 (x4.map V.str))
    (k1 : ∀ x ∈ x1, PyData.strOk x = true) (k2 : ∀ x ∈ x2, PyData.strOk x = true) (k3 : ∀ x ∈ x3, PyData.strOk x = true) (k4 : ∀ x ∈ x4, PyData.strOk x = true) (q : Q (.bl false) H) : rNeD K (.ref l) (.ref l') H Q := by
  have sh : SeqAt.shaped (.list [.tuple (x1.map PyData.str), .tuple (x2.map PyData.str), .tuple (x3.map PyData.str), .tuple (x4.map PyData.str)]) = true := by
    refine Bool.and_eq_true_iff.mpr ⟨?_, decide_eq_true ?_⟩
    · simp only [PyData.canLay0, PyData.canLayAll0]
      rw [(layAll_strs k1).1, (layAll_strs k2).1, (layAll_strs k3).1, (layAll_strs k4).1]
      rfl
    · simp only [PyData.depth, PyData.depthAll]
      rw [(layAll_strs k1).2, (layAll_strs k2).2, (layAll_strs k3).2, (layAll_strs k4).2]
      decide
  refine ⟨_, _, .lst hl (.cons (.tup h1 (dpAll_strs x1)) (.cons (.tup h2 (dpAll_strs x2)) (.cons (.tup h3 (dpAll_strs x3)) (.cons (.tup h4 (dpAll_strs x4)) .nil)))), .lst hl' (.cons (.tup g1 (dpAll_strs x1)) (.cons (.tup g2 (dpAll_strs x2)) (.cons (.tup g3 (dpAll_strs x3)) (.cons (.tup g4 (dpAll_strs x4)) .nil)))), sh, sh, ?_⟩
  have e : PyData.eqv (.list [.tuple (x1.map PyData.str), .tuple (x2.map PyData.str), .tuple (x3.map PyData.str), .tuple (x4.map PyData.str)]) (.list [.tuple (x1.map PyData.str), .tuple (x2.map PyData.str), .tuple (x3.map PyData.str), .tuple (x4.map PyData.str)]) = true := by
    rw [show ∀ xs ys, PyData.eqv (.list xs) (.list ys) = PyData.eqvAll xs ys from fun xs ys => by simp only [PyData.eqv]]
    simp only [PyData.eqvAll]
    rw [eqv_strsT, eqv_strsT, eqv_strsT, eqv_strsT]
    rfl
  rw [e]
  exact q
end UW
namespace UW
open PySem PySem.Spec PyProof.Rows L2
section
variable {prog : Program} {w : World} {A : Around} {E : Value → Shared → Prop} {s : Shared}
theorem adjust_back (n : Nat) : Builtin.Slice.sliceAdjust none none (-1) (n : Int) = ((n : Int) - 1, -1) := rfl
theorem places_back (n : Nat) : Builtin.Slice.slicePlaces ((n : Int) - 1) (-1) (-1) = n := by
  unfold Builtin.Slice.slicePlaces
  rw [if_neg (by decide), show (- -1 : Int) = 1 by decide, Int.ediv_one]
  split <;> omega
theorem applied_back {sl : Addr} {vs : Value} {n : Nat} {Q : Int × Int × Nat → Shared → Prop} (hs : s.heap.IsSliceOf sl .none .none vs) (ps : IsPart vs (some (-1))) (h : Q ((n : Int) - 1, -1, n) s) :
    wpAny (model prog w) A (Builtin.Slice.sliceApplied (.ref sl) (pure (n : Int))) Q E s := by
  obtain ⟨os, hos, _, hds⟩ := id hs
  unfold Builtin.Slice.sliceApplied Builtin.Slice.sliceFields
  refine wpAny_bind (wpAny_bind (wpAny_field hos hds (x := .none) rfl (wpAny_bind (wpAny_field hos hds (x := .none) rfl (wpAny_bind (wpAny_field hos hds (x := vs) rfl (wpAny_pure ?_)))))))
  refine wpAny_bind (HT.slicePart_ ps ?_)
  show wpAny _ _ (if ((-1 : Int) == 0) = true then _ else _) _ _ s
  rw [if_neg (by decide)]
  refine wpAny_bind (slicePart_none (wpAny_bind (slicePart_none (wpAny_bind (wpAny_pure ?_)))))
  show wpAny _ _ (pure ((n : Int) - 1, (-1 : Int), Builtin.Slice.slicePlaces ((n : Int) - 1) (-1) (-1))) _ _ s
  rw [places_back]
  exact wpAny_pure h
theorem fm_congr {α β : Type} {f g : α → Option β} : ∀ {l : List α}, (∀ x ∈ l, f x = g x) → l.filterMap f = l.filterMap g
  | [], _ => rfl
  | x :: l, h => by rw [List.filterMap_cons, List.filterMap_cons, h x (List.mem_cons_self ..), fm_congr fun y hy => h y (List.mem_cons_of_mem _ hy)]
theorem pick_back (xs : Array Value) : ((List.range xs.size).filterMap fun (m : Nat) => xs[((xs.size : Int) - 1 + (m : Int) * (-1)).toNat]?).toArray = xs.toList.reverse.toArray := by
  have e : (List.range xs.size).filterMap (fun (m : Nat) => xs[((xs.size : Int) - 1 + (m : Int) * (-1)).toNat]?) = ((List.range xs.size).map fun k => xs.size - 1 - k).filterMap (xs[·]?) := by
    rw [List.filterMap_map]
    refine fm_congr fun m hm => ?_
    have : ((xs.size : Int) - 1 + (m : Int) * (-1)).toNat = xs.size - 1 - m := by
      have := List.mem_range.mp hm
      omega
    show xs[_]? = xs[_]?
    rw [this]
  rw [e, PySem.W.krv_range, List.filterMap_reverse, PySem.W.krv_all]
theorem getItem_back {t sl : Addr} {items : Array Value} {vs : Value} {Q : Value → Shared → Prop} (ht : IsTup s.heap t items) (hs : s.heap.IsSliceOf sl .none .none vs) (ps : IsPart vs (some (-1)))
    (h : Q (.ref s.heap.objs.size) { s with heap := s.heap.push { cls := .type "tuple", data := .seq items.toList.reverse.toArray } }) (hsz : items.size ≤ sizeLine) : wpAny (model prog w) A (getItem (.ref t) (.ref sl)) Q E s := by
  have hok : sizeOk (.seq items.toList.reverse.toArray) := by
    show items.toList.reverse.toArray.size ≤ sizeLine
    rw [List.size_toArray, List.length_reverse, Array.length_toList]
    exact hsz
  have hTs : s.TypeIs (.ref sl) "slice" := by
    obtain ⟨os, hos, hcs, _⟩ := id hs
    exact ⟨os, hos, hcs⟩
  unfold getItem
  try with_reducible refine wpAny_holding ?_
  first | refine wpAny_bind (wpAny_pure ?_) | skip
  refine wpAny_bind (wpAny_sequenceKey ht.typeIs (by decide) ?_)
  refine wpAny_bind (wpAny_callSpecial?_slot (name := Str.ofString "__getitem__") ht.typeIs PyProof.Rows.slot_tuple_getitem
    (wpAny_call_entry PyProof.Rows.slot_tuple_getitem ht.typeIs entry_tuple_getitem ?_ (args_tuple_getitem _ _)))
  show wpAny _ _ (Builtin.Tuple.tupleItemsOf (.ref t) >>= _) _ _ s
  refine wpAny_bind (tupleItemsOf_ ht (wpAny_bind (wpAny_typeOf hTs ?_)))
  rw [if_pos (by decide)]
  refine wpAny_bind (applied_back hs ps ?_)
  show wpAny _ _ (if (((items.size : Int) - 1) == 0 && (-1 : Int) == 1 && items.size == items.size) = true then _ else _) _ _ s
  rw [if_neg (by rw [show ((-1 : Int) == 1) = false from rfl, Bool.and_false, Bool.false_and]; exact Bool.false_ne_true), pick_back]
  exact wpAny_bind (m := Builtin.Tuple.tupleExact _) (wpAny_newObj_type (wpAny_pure ⟨_, rfl, wpAny_pure h⟩) hok)
end
section
variable {X : Cx}
def tRevT (K : PySem.W.Frag) (te : TE) : TE := fun σ H Q => te σ H fun x H1 => ∃ a xs, x = .ref a ∧ SqT K H1 a xs ∧ ∀ p, H1 p = none → Q (.ref p) (upd H1 p (.tup xs.reverse))
theorem pe_revT {e : Expr} {te : TE} {k : Nat} {p1 p2 p3 pos : Pos} (he : PE X e te) : PE X (.Subscript e (.Slice none none (some (.UnaryOp .USub (.Constant (.int 1) k p1) p2)) p3) pos) (tRevT X.K te) := by
  refine ⟨fun pins s σ H Q I h => Subscript_ (thn (he.run pins s σ H _ I h) fun v s1 ⟨x, H1, I1, r1, q1⟩ => ?_)⟩
  obtain ⟨a, xs, ex, hx, q⟩ := q1
  subst ex
  cases r1
  have hst : PO X (some (.UnaryOp .USub (.Constant (.int 1) k p1) p2)) (tPart (tUn (rU fun i => .int (-i)) (tC (.int 1)))) := po_some (pe_un un_neg pe_int)
  refine wpAny_Slice (thn (po_none.run pins s1 σ H1 (fun o H2 => o = none ∧ H2 = H1) I1 ⟨rfl, rfl⟩) fun vl s2 ⟨l, H2, I2, pl, el, e2⟩ => ?_)
  subst el e2
  refine thn (po_none.run pins s2 σ H2 (fun o H3 => o = none ∧ H3 = H2) I2 ⟨rfl, rfl⟩) fun vu s3 ⟨u, H3, I3, pu, eu, e3⟩ => ?_
  subst eu e3
  refine thn (hst.run pins s3 σ H3 (fun o H4 => o = some (-1) ∧ H4 = H3) I3 ⟨1, rfl, -1, rfl, rfl, rfl⟩) fun vs s4 ⟨o, H4, I4, ps, eo, e4⟩ => ?_
  subst eo e4
  cases pl
  cases pu
  have I5 : Inv X pins σ H4 { s4 with heap := s4.heap.push { cls := .type "slice", data := .fields #[.none, .none, vs] } } := I4.kept (t' := s4.toks) fun b ob q => Heap.get?_push_of_some _ q
  obtain ⟨its, r, ht, hz⟩ := I5.tuple hx
  have hlen := r.length
  show wpAny (model X.prog X.w) X.A (subscriptTail e (.Slice none none (some (.UnaryOp .USub (.Constant (.int 1) k p1) p2)) p3) (.ref a) (.ref s4.heap.objs.size)) (EP X pins σ Q) X.xe { s4 with heap := s4.heap.push { cls := .type "slice", data := .fields #[.none, .none, vs] } }
  refine tail_any (ops := [.ref a, .ref s4.heap.objs.size]) ht.typeIs (PyProof.Rows.slot_tuple_getitem.lookup) ?_ (by with_unfolding_all rfl)
  refine getItem_back ht (Heap.IsSliceOf.new _ .none .none vs) ps ?_ (by rw [List.size_toArray]; omega)
  refine ⟨.ref _, _, I5.laid (t' := s4.toks) (o := .tup xs.reverse) (fun b ob q => Heap.get?_push_of_some _ q) (Nat.le_refl _) ?_, rfl, q _ (I5.hok.fresh (Nat.le_refl _))⟩
  exact ⟨by rw [List.length_reverse]; exact hz, _, r.reverse, IsTup.new _ _⟩
end
end UW

namespace UW
open PySem L2
theorem inV_mem (y : Str) (us : List V) : inV (.str y) us = true ↔ V.str y ∈ us := by
  unfold inV
  rw [List.any_eq_true]
  refine ⟨fun ⟨v, hv, e⟩ => ?_, fun h => ⟨_, h, by simp [eqV]⟩⟩
  have : v = .str y := by
    cases v <;> simp [eqV] at e
    rw [e]
  exact this ▸ hv
/-- the candidates that aren't among the given things -/
def frees (x : Str) (us : List V) : List Str := (cands x).filter fun y => !inV (.str y) us
theorem frees_ok {x : Str} {us : List V} {ds : List Str} (h : ∀ y, V.str y ∈ us → y ∈ ds) (hl : ds.length < 26) : ∃ z zs, frees x us = z :: zs ∧ V.str z ∉ us ∧ z ∈ cands x := by
  obtain ⟨c, hc, hd⟩ := free_in (cands_nodup x) (ds := ds) (by unfold cands; rw [List.length_map, List.length_range]; exact hl)
  have hm : c ∈ frees x us := List.mem_filter.mpr ⟨hc, by
    cases he : inV (.str c) us
    · rfl
    · exact absurd (h c ((inV_mem c us).mp he)) hd⟩
  cases hf : frees x us with
  | nil => rw [hf] at hm; cases hm
  | cons z zs =>
    have hz : z ∈ frees x us := by rw [hf]; exact List.mem_cons_self ..
    obtain ⟨h1, h2⟩ := List.mem_filter.mp hz
    refine ⟨z, zs, rfl, fun e => ?_, h1⟩
    rw [(inV_mem z us).mpr e] at h2
    exact Bool.false_ne_true h2
theorem cand_len {x z : Str} (h : z ∈ cands x) : z.length = 1 + x.length := by
  obtain ⟨i, _, rfl⟩ := List.mem_map.mp h
  rw [len_tl', sign_app_tl, List.length_cons, ← len_tl']
  omega
end UW
/-! own layer: objects with their own ==, !=, in, str, repr -/
namespace UO
open PySem PySem.Spec PyProof.Rows L2

section
variable {X : Cx} {CX : CXT} {n : Nat} {f C : Addr} {fd : FuncData} {ps : List Str} {sp : Sp} {E : XK}
/-- a def called from within a builtin -/
theorem call_sub (F : FnOk X.prog X.w X.K X.mg X.base CX n f fd ps sp) (hb : Binds X.K fd ps []) (hx : Passes CX X E) {A : Around} (sb : Sub X n A) {pins : List (Addr × Obj)} {σ : L2.St} {H : Hp} {s : Shared} (I : L2.Inv X pins σ H s)
    {vs : List V} {us : List Value} (r : Vals vs us) {Q : VK} (h : sp vs H Q E) : wpAny (model X.prog X.w) A (call (.ref f) us) (EP X pins σ Q) X.xe s := by
  have e0 : Env0 X.prog X.w X.K X.mg X.base A X.stack s H := by
    have e := I.env0
    exact ⟨by rw [sb.fr]; exact e.frames, e.mod, e.bs, e.bsz, e.funs, e.frf, e.hok, e.bare⟩
  have hl := F.len _ _ _ _ h
  refine wpAny_call (codeAny_mono (F.run A X.stack s H ⟨us, []⟩ us vs _ E sb.room e0 (by
    have := hb s us I.kIn (by rw [List.append_nil, ← r.length]; exact hl)
    rw [List.append_nil] at this
    exact this) r h) fun r s' hq => ?_)
  cases r with
  | error e => exact hx pins σ H s e s' I hq
  | ok fl =>
    cases fl with
    | ret w => exact I.after hq
    | next => exact False.elim hq
    | brk => exact False.elim hq
    | cont => exact False.elim hq

/-- == of two values, by what is asked of them: a truth, and the heap behind it -/
def RcO (X : Cx) (n : Nat) (r : R2) : Prop :=
  ∀ (A : Around) (pins : List (Addr × Obj)) (s : Shared) (σ : L2.St) (H : Hp) (x y : V) (u v : Value) (Q : VK), Sub X n A → L2.Inv X pins σ H s → RelV x u → RelV y v → r x y H Q →
    wpAny (model X.prog X.w) A (richCompare .Eq u v) (fun t s' => ∃ b H', t = .bool b ∧ L2.Inv X pins σ H' s' ∧ Q (.bl b) H') X.xe s
def EqO (X : Cx) (n : Nat) (r : R2) : Prop :=
  ∀ (A : Around) (pins : List (Addr × Obj)) (s : Shared) (σ : L2.St) (H : Hp) (x y : V) (u v : Value) (Q : VK), Sub X n A → L2.Inv X pins σ H s → RelV x u → RelV y v → r x y H Q →
    wpAny (model X.prog X.w) A (eqBool u v) (fun b s' => ∃ H', L2.Inv X pins σ H' s' ∧ Q (.bl b) H') X.xe s
theorem op_rc {r : R2} (h : RcO X n r) (hr : Room n X.A) : OpR X (compareOp .Eq) r := by
  intro pins s σ H x y v u Q I rx ry hq
  show wpAny (model X.prog X.w) X.A (richCompare .Eq v u) (EP X pins σ Q) X.xe s
  refine wpAny_mono (h X.A pins s σ H x y v u Q ⟨hr, rfl⟩ I rx ry hq) (fun t s' z => ?_) fun _ _ x => x
  obtain ⟨b, H', rfl, I', q⟩ := z
  exact ⟨.bl b, H', I', rfl, q⟩
/-- two values that are not one object -/
def apart : V → V → Prop
  | .ref a, .ref b => a ≠ b
  | .ref _, .flt _ => False
  | .flt _, _ => False
  | .ref _, _ => True
  | _, .ref _ => True
  | _, _ => False
theorem eqBool_apart {prog : Program} {w : World} {A : Around} {E : Value → Shared → Prop} {s : Shared} {u v : Value} {x y : V} {Q : Bool → Shared → Prop} (ha : apart x y) (rx : RelV x u) (ry : RelV y v)
    (h : wpAny (model prog w) A (richCompare .Eq u v) (fun t s' => ∃ b, t = .bool b ∧ Q b s') E s) : wpAny (model prog w) A (eqBool u v) Q E s := by
  have fin : ∀ (u v : Value), (u == v) = false → (wpAny (model prog w) A (eqBool u v) Q E s = wpAny (model prog w) A (holding [u, v] (if (u == v) = true then (do rule "eq-bool.same-object"; return true) else (do truthOfDropped (← richCompare .Eq u v)))) Q E s) →
      wpAny (model prog w) A (richCompare .Eq u v) (fun t s' => ∃ b, t = .bool b ∧ Q b s') E s → wpAny (model prog w) A (eqBool u v) Q E s := fun u v k e h => by
    rw [e]
    refine wpAny_holding ?_
    rw [k]
    show wpAny _ _ (do truthOfDropped (← richCompare .Eq u v)) _ _ _
    refine wpAny_bind (wpAny_mono h (fun t s' z => ?_) fun _ _ x => x)
    obtain ⟨b, rfl, q⟩ := z
    exact wpAny_truthy_bool q
  cases x with
  | ref a =>
    cases (show u = Value.ref a from rx)
    cases y with
    | ref b =>
      cases (show v = Value.ref b from ry)
      refine fin _ _ ?_ rfl h
      cases q : (Value.ref a == Value.ref b) with
      | false => rfl
      | true => exact absurd (by have := eq_of_beq q; injection this) ha
    | non => cases (show v = Value.none from ry); exact fin _ _ rfl rfl h
    | bl b => cases (show v = Value.bool b from ry); exact fin _ _ rfl rfl h
    | int i => obtain ⟨t, rfl⟩ := (show ∃ t, v = Value.int i t from ry); exact fin _ _ rfl rfl h
    | str z => obtain ⟨t, rfl⟩ := (show ∃ t, v = Value.str z t from ry); exact fin _ _ rfl rfl h
    | byt z => obtain ⟨t, rfl⟩ := (show ∃ t, v = Value.bytes z t from ry); exact fin _ _ rfl rfl h
    | flt z => exact False.elim ha
    | ty z => cases (show v = Value.type z from ry); exact fin _ _ rfl rfl h
  | _ =>
    cases y with
    | ref b =>
      cases (show v = Value.ref b from ry)
      first
        | exact False.elim ha
        | (cases (show u = Value.none from rx); exact fin _ _ rfl rfl h)
        | (cases (show u = Value.bool _ from rx); exact fin _ _ rfl rfl h)
        | (obtain ⟨t, rfl⟩ := (show ∃ t, u = Value.int _ t from rx); exact fin _ _ rfl rfl h)
        | (obtain ⟨t, rfl⟩ := (show ∃ t, u = Value.str _ t from rx); exact fin _ _ rfl rfl h)
        | (obtain ⟨t, rfl⟩ := (show ∃ t, u = Value.bytes _ t from rx); exact fin _ _ rfl rfl h)
        | (cases (show u = Value.type _ from rx); exact fin _ _ rfl rfl h)
    | _ => exact False.elim ha
theorem RcO.eqO {r : R2} (h : RcO X n r) (ha : ∀ x y H Q, r x y H Q → apart x y) : EqO X n r := by
  intro A pins s σ H x y u v Q sb I rx ry hq
  refine eqBool_apart (ha x y H Q hq) rx ry (wpAny_mono (h A pins s σ H x y u v Q sb I rx ry hq) (fun t s' z => ?_) fun _ _ x => x)
  obtain ⟨b, H', rfl, I', q⟩ := z
  exact ⟨b, rfl, H', I', q⟩

def rAp (r : R2) : R2 := fun x y H Q => apart x y ∧ r x y H Q
theorem RcO.ap {r : R2} (h : RcO X n r) : EqO X n (rAp r) := RcO.eqO (r := rAp r) (fun A pins s σ H x y u v Q sb I rx ry hq => h A pins s σ H x y u v Q sb I rx ry hq.2) fun x y H Q hq => hq.1

/-! ### an instance on the left -/
def rEqO (K : PySem.W.Frag) (C : Addr) (sp : Sp) (E : XK) : R2 := fun x y H Q => ∃ a dx fs t, x = .ref a ∧ H a = some (.ins C dx fs) ∧ TyX K H y t ∧ PySem.W.notFirst K C t = true ∧ sp [x, y] H (fun v H' => ∃ b, v = .bl b ∧ Q (.bl b) H') E
theorem rc_left (F : FnOk X.prog X.w X.K X.mg X.base CX n f fd ps sp) (hs : PySem.W.findIn X.K (.ref C) "__eq__" = some (some (.ref f))) (hf : PySem.W.isFn X.K (.ref f) = true) (hb : Binds X.K fd ps []) (hx : Passes CX X E) : RcO X n (rEqO X.K C sp E) := by
  intro A pins s σ H x y u v Q sb I rx ry hq
  obtain ⟨a, dx, fs, t, rfl, ha, ty, hn, q⟩ := hq
  cases rx
  obtain ⟨mA, J, _⟩ := ins_get I.hok ha
  obtain ⟨od, J, _⟩ := J.look
  obtain ⟨m, hF⟩ := I.fr
  obtain ⟨P, Z, p, _⟩ := kit_of I ry ty
  refine PySem.W.cmp_K (op := .Eq) (tb := t) sb.room.units0 hF I.ok.mod.kin J (Z.ty _ _ I.kIn p) hn hs hf ?_
  have r2 : Vals [V.ref a, y] [Value.ref a, v] := .cons rfl (.cons ry .nil)
  refine wpAny_mono (call_sub F hb hx sb I r2 q) (fun r s' z => ?_) fun _ _ x => x
  obtain ⟨z, H', I', rz, b, rfl, q'⟩ := z
  cases (show r = Value.bool b from rz)
  exact ⟨b, H', rfl, I', q'⟩
end

/-! ### built-in values that decline to be compared with an instance -/
section
open AutoSeq1 (wpAny_loadPart')
open MeetsSeq
theorem int_declines (b : Int) (u : Tok) (l C dx : Addr) : Meets (Builtin.«int.__eq__» ⟨[.int b u, .ref l], []⟩) (fun _ R s => s.heap.get? l = some (PySem.W.instObj C dx) ∧ R (.ok (.ret .notImplemented)) s) :=
  .of_wp fun prog w A R s h => by obtain ⟨hp, g, d, tk, os⟩ := s; obtain ⟨hl, h⟩ := h; unfold PySem.W.instObj at hl; wp_walk using wpAny_loadPart' hl, wpAny_load hl; exact ⟨_, rfl, h⟩
theorem bool_declines (b : Bool) (l C dx : Addr) : Meets (Builtin.«int.__eq__» ⟨[.bool b, .ref l], []⟩) (fun _ R s => s.heap.get? l = some (PySem.W.instObj C dx) ∧ R (.ok (.ret .notImplemented)) s) :=
  .of_wp fun prog w A R s h => by obtain ⟨hp, g, d, tk, os⟩ := s; obtain ⟨hl, h⟩ := h; unfold PySem.W.instObj at hl; wp_walk using wpAny_loadPart' hl, wpAny_load hl; exact ⟨_, rfl, h⟩
theorem str_declines (b : Str) (u : Tok) (l C dx : Addr) : Meets (Builtin.«str.__eq__» ⟨[.str b u, .ref l], []⟩) (fun _ R s => s.heap.get? l = some (PySem.W.instObj C dx) ∧ R (.ok (.ret .notImplemented)) s) :=
  .of_wp fun prog w A R s h => by obtain ⟨hp, g, d, tk, os⟩ := s; obtain ⟨hl, h⟩ := h; unfold PySem.W.instObj at hl; wp_walk using wpAny_loadPart' hl, wpAny_load hl; exact ⟨_, rfl, h⟩
theorem list_declines (p l C dx : Addr) (items : Array Value) (k : Nat) (dd : Option Addr) (sl : Array (Option Value)) : Meets (Builtin.«list.__eq__» ⟨[.ref p, .ref l], []⟩)
    (fun A R s => s.heap.get? p = some { cls := .type "list", dict := dd, data := .seq items k, slots := sl } ∧ s.heap.get? l = some (PySem.W.instObj C dx) ∧ (∀ M : Model, PySem.W.Looks M s.heap (isSubtype (.ref C) (.type "list")) false) ∧ R (.ok (.ret .notImplemented)) s) :=
  .of_wp fun prog w A R s h => by
    obtain ⟨hp, g, d, tk, os⟩ := s
    obtain ⟨h1, hl, hs, h⟩ := h
    unfold PySem.W.instObj at hl
    have f1 : ∀ {A : Around} {E : Value → Shared → Prop} {Q : Bool → Shared → Prop}, Q false ⟨hp, g, d, tk, os⟩ → wpAny (model prog w) A (isSubtype (.ref C) (.type "list")) Q E ⟨hp, g, d, tk, os⟩ := fun q => (hs _).here q
    wp_walk using wpAny_loadPart' h1, wpAny_loadPart' hl, f1
    exact ⟨_, rfl, h⟩
theorem tuple_declines (p l C dx : Addr) (items : Array Value) (k : Nat) (dd : Option Addr) (sl : Array (Option Value)) : Meets (Builtin.«tuple.__eq__» ⟨[.ref p, .ref l], []⟩)
    (fun A R s => s.heap.get? p = some { cls := .type "tuple", dict := dd, data := .seq items k, slots := sl } ∧ s.heap.get? l = some (PySem.W.instObj C dx) ∧ (∀ M : Model, PySem.W.Looks M s.heap (isSubtype (.ref C) (.type "tuple")) false) ∧ R (.ok (.ret .notImplemented)) s) :=
  .of_wp fun prog w A R s h => by
    obtain ⟨hp, g, d, tk, os⟩ := s
    obtain ⟨h1, hl, hs, h⟩ := h
    unfold PySem.W.instObj at hl
    have f1 : ∀ {A : Around} {E : Value → Shared → Prop} {Q : Bool → Shared → Prop}, Q false ⟨hp, g, d, tk, os⟩ → wpAny (model prog w) A (isSubtype (.ref C) (.type "tuple")) Q E ⟨hp, g, d, tk, os⟩ := fun q => (hs _).here q
    wp_walk using wpAny_loadPart' h1, wpAny_loadPart' hl, f1
    exact ⟨_, rfl, h⟩
end

section
variable {X : Cx} {CX : CXT} {n : Nat} {f C : Addr} {fd : FuncData} {ps : List Str} {sp : Sp} {E : XK}
/-- a built-in value on the left that declines, an instance on the right -/
theorem rc_refl {prog : Program} {w : World} {A : Around} {E : Value → Shared → Prop} {s : Shared} {K : PySem.W.Frag} {u : Value} {b C f : Addr} {ob : Obj} {od : Option Obj} {Ta id : String} {Q : Value → Shared → Prop} (hu : A.units < cLine) (XK : K.In s.heap)
    (ha : s.TypeIs u Ta) (h1 : Slot Ta "__eq__" id) (J : PySem.W.InstAt s.heap b ob C od) (hsub : PySem.W.mroIn K C (.type Ta) = some false) (hs : PySem.W.findIn K (.ref C) "__eq__" = some (some (.ref f))) (hf : PySem.W.isFn K (.ref f) = true)
    (hc1 : ∀ Q' : Value → Shared → Prop, Q' .notImplemented s → wpAny (model prog w) A (call (.builtin id) [u, .ref b]) Q' E s)
    (hc2 : wpAny (model prog w) A (call (.ref f) [.ref b, u]) (PySem.W.CmpBack Q) E s) : wpAny (model prog w) A (richCompare .Eq u (.ref b)) Q E s := by
  rcases hi : cmpInfo CmpOp.Eq with ⟨sym, g, r⟩
  have e1 : g = ("__eq__" : Str) := by have := congrArg (fun z => z.2.1) hi; exact this.symm
  have e2 : r = ("__eq__" : Str) := by have := congrArg (fun z => z.2.2) hi; exact this.symm
  subst e1 e2
  simp only [richCompare, hi, ha.oneThing_none]
  refine wpAny_holding ?_
  refine wpAny_bind (wpAny_cRoomFor hu ?_)
  refine wpAny_bind (wpAny_typeOf ha (wpAny_bind (J.type.here ?_)))
  rw [show (Value.type Ta != Value.ref C) = true from rfl]
  simp only [if_true]
  refine wpAny_bind ((PySem.W.looks_mroIn XK hsub).here ?_)
  simp only [Bool.false_eq_true, if_false, Bool.not_false, if_true]
  refine wpAny_bind (m := tryCompare u _ (.ref b)) (wpAny_tryCompare_declines ha h1 (hc1 _ ⟨rfl, ?_⟩))
  have one : wpAny (model prog w) A (tryCompare (.ref b) "__eq__" u) (fun r s' => ∃ v, r = some v ∧ Q v s') E s := by
    unfold tryCompare
    refine wpAny_bind (PySem.W.ifBound_K XK J hs hf (wpAny_mono hc2 (fun v s' hv => ?_) fun _ _ e => e))
    cases v <;> first | exact hv.elim | exact wpAny_pure ⟨_, rfl, hv⟩
  refine wpAny_bind (m := tryCompare (.ref b) _ u) (wpAny_mono one (fun r s' z => ?_) fun _ _ e => e)
  obtain ⟨v, rfl, hq⟩ := z
  exact wpAny_pure hq
/-- the built-in type of a plain thing -/
def plainTy (H : Hp) (K : PySem.W.Frag) : V → String → Prop
  | .non, T => T = "NoneType"
  | .bl _, T => T = "bool"
  | .int _, T => T = "int"
  | .str _, T => T = "str"
  | .ref p, T => (T = "list" ∧ ∃ xs, SqL K H p xs) ∨ (T = "tuple" ∧ ∃ xs, SqT K H p xs)
  | _, _ => False
def rEqR (K : PySem.W.Frag) (C : Addr) (sp : Sp) (E : XK) : R2 := fun x y H Q => ∃ b dy gs T, y = .ref b ∧ H b = some (.ins C dy gs) ∧ plainTy H K x T ∧ PySem.W.mroIn K C (.type T) = some false ∧ sp [y, x] H (fun v H' => ∃ b, v = .bl b ∧ Q (.bl b) H') E
theorem rc_right (F : FnOk X.prog X.w X.K X.mg X.base CX n f fd ps sp) (hs : PySem.W.findIn X.K (.ref C) "__eq__" = some (some (.ref f))) (hf : PySem.W.isFn X.K (.ref f) = true) (hb : Binds X.K fd ps []) (hx : Passes CX X E) : RcO X n (rEqR X.K C sp E) := by
  intro A pins s σ H x y u v Q sb I rx ry hq
  obtain ⟨b, dy, gs, T, rfl, hb', pt, hm, q⟩ := hq
  cases ry
  obtain ⟨mA, J0, _⟩ := ins_get I.hok hb'
  have hobj := J0.obj
  obtain ⟨od, J, _⟩ := J0.look
  have hsub : ∀ M : Model, PySem.W.Looks M s.heap (isSubtype (.ref C) (.type T)) false := fun M => PySem.W.looks_mroIn I.kIn hm
  have r2 : Vals [V.ref b, x] [Value.ref b, u] := .cons rfl (.cons rx .nil)
  have back : wpAny (model X.prog X.w) A (call (.ref f) [.ref b, u]) (PySem.W.CmpBack fun t s' => ∃ b H', t = .bool b ∧ L2.Inv X pins σ H' s' ∧ Q (.bl b) H') X.xe s := by
    refine wpAny_mono (call_sub F hb hx sb I r2 q) (fun r s' z => ?_) fun _ _ x => x
    obtain ⟨z, H', I', rz, k, rfl, q'⟩ := z
    cases (show r = Value.bool k from rz)
    exact ⟨k, H', rfl, I', q'⟩
  cases x with
  | non =>
    cases (show u = Value.none from rx)
    cases (show T = "NoneType" from pt)
    exact rc_refl sb.room.units0 I.kIn rfl PySem.F.slot_NoneType_eq J hm hs hf (fun Q' hq' => call_gives PySem.F.slot_NoneType_eq rfl PySem.F.entry_NoneType_eq (PySem.F.args_NoneType_eq_2 _ _) (SeqAt.NoneType___eq___none_ref_0 b) hq') back
  | bl k =>
    cases (show u = Value.bool k from rx)
    cases (show T = "bool" from pt)
    exact rc_refl sb.room.units0 I.kIn rfl PySem.F.slot_bool_eq J hm hs hf (fun Q' hq' => call_meets PySem.F.slot_bool_eq rfl PySem.F.entry_int_eq (PySem.F.args_int_eq_2 _ _) (bool_declines k b C _) ⟨hobj, hq'⟩) back
  | int i =>
    obtain ⟨t, rfl⟩ := (show ∃ t, u = Value.int i t from rx)
    cases (show T = "int" from pt)
    exact rc_refl sb.room.units0 I.kIn (typeIs_int s i t) PySem.F.slot_int_eq J hm hs hf (fun Q' hq' => call_meets PySem.F.slot_int_eq (typeIs_int s i t) PySem.F.entry_int_eq (PySem.F.args_int_eq_2 _ _) (int_declines i t b C _) ⟨hobj, hq'⟩) back
  | str z =>
    obtain ⟨t, rfl⟩ := (show ∃ t, u = Value.str z t from rx)
    cases (show T = "str" from pt)
    exact rc_refl sb.room.units0 I.kIn (typeIs_str s z t) PySem.F.slot_str_eq J hm hs hf (fun Q' hq' => call_meets PySem.F.slot_str_eq (typeIs_str s z t) PySem.F.entry_str_eq (PySem.F.args_str_eq_2 _ _) (str_declines z t b C _) ⟨hobj, hq'⟩) back
  | ref p =>
    cases (show u = Value.ref p from rx)
    rcases pt with ⟨rfl, xs, hp⟩ | ⟨rfl, xs, hp⟩
    · obtain ⟨its, r, pl, hz⟩ := I.list hp
      obtain ⟨⟨cls, dd, data, sl⟩, ho, hc, k, hd⟩ := pl.isList
      simp only at hc hd
      subst hc hd
      exact rc_refl sb.room.units0 I.kIn ⟨_, ho, rfl⟩ PySem.F.slot_list_eq J hm hs hf (fun Q' hq' => call_meets PySem.F.slot_list_eq ⟨_, ho, rfl⟩ PySem.F.entry_list_eq (PySem.F.args_list_eq_2 _ _) (list_declines p b C _ _ _ _ _) ⟨ho, hobj, hsub, hq'⟩) back
    · obtain ⟨its, r, pl, hz⟩ := I.tuple hp
      obtain ⟨⟨cls, dd, data, sl⟩, ho, hc, k, hd⟩ := pl
      simp only at hc hd
      subst hc hd
      exact rc_refl sb.room.units0 I.kIn ⟨_, ho, rfl⟩ PySem.F.slot_tuple_eq J hm hs hf (fun Q' hq' => call_meets PySem.F.slot_tuple_eq ⟨_, ho, rfl⟩ PySem.F.entry_tuple_eq (PySem.F.args_tuple_eq_2 _ _) (tuple_declines p b C _ _ _ _ _) ⟨ho, hobj, hsub, hq'⟩) back
  | _ => exact False.elim pt
end

/-! ### != by the object's own == -/
section
variable {prog : Program} {w : World} {M : Model} {A : Around} {E : Value → Shared → Prop} {s : Shared} {K : PySem.W.Frag} {x C f : Addr} {ox : Obj} {od : Option Obj}
theorem ifBound_B {name : Str} {id : String} {args : List Value} {Q : Option Value → Shared → Prop} (XK : K.In s.heap) (I : PySem.W.InstAt s.heap x ox C od) (hs : PySem.W.findIn K (.ref C) name = some (some (.builtin id)))
    (hb : ∀ self, bindSpecial (.builtin id) self = pure (.builtin id, [self])) (h : wpAny M A (call (.builtin id) (.ref x :: args)) (fun v => Q (some v)) E s) : wpAny M A (callSpecialIfBound? (.ref x) name args) Q E s := by
  simp only [callSpecialIfBound?, bindSpecialIfBound?]
  refine wpAny_holding (wpAny_bind (wpAny_bind (wpAny_bind (I.type.here ((PySem.W.looks_findIn XK hs).here ?_)))))
  refine wpAny_bind (wpAny_askSetting (wpAny_ite ?_))
  have fin : wpAny M A (call (.builtin id) ([.ref x] ++ args) >>= fun v => pure (some v)) Q E s := wpAny_bind (wpAny_mono h (fun v s' h' => wpAny_pure h') fun _ _ h' => h')
  split
  · exact wpAny_bind ((PySem.W.Looks.of_pure (hb _)).here (wpAny_pure (by exact fin)))
  · exact wpAny_tryCatch (wpAny_bind ((PySem.W.Looks.of_pure (hb _)).here (wpAny_pure (by exact fin))))
open Builtin in
theorem call_objNe {b : Value} {Q : Value → Shared → Prop} (hu : A.in1.units < cLine) (XK : K.In s.heap) (I : PySem.W.InstAt s.heap x ox C od) (hm : PySem.W.mroIn K C (.type "object") = some true) (hs : PySem.W.findIn K (.ref C) "__eq__" = some (some (.ref f))) (hf : PySem.W.isFn K (.ref f) = true)
    (h : wpAny (model prog w) A.in1 (call (.ref f) [.ref x, b]) (fun v s' => ∃ k, v = .bool k ∧ Q (.bool (!k)) s') E s) : wpAny (model prog w) A (call (.builtin "object.__ne__") [.ref x, b]) Q E s := by
  refine wpAny_call (codeAny_call_builtin PySem.F.cmp_object.ne.plain PySem.F.cmpEntry_ne (PySem.W.check_slot (i := "object.__ne__") (owner := "object") (n := "__ne__") (by decide +kernel) (by decide +kernel) (I.type.andThen (PySem.W.looks_mroIn XK hm)) (PySem.F.cmpArgs_ne _ _) ?_))
  unfold Builtin.«object.__ne__»
  repeat (first
    | with_reducible refine wpAny_cRoomFor hu ?_
    | (refine wpAny_bind (m := callSpecialIfBound? (.ref x) (Str.ofString "__eq__") [b])
        (PySem.W.ifBound_K XK I hs hf (wpAny_mono h (fun r s' hr => by
          obtain ⟨k, rfl, hq⟩ := hr
          repeat (first | exact hq | exact wpAny_pure hq | exact wpAny_truthy_bool hq | (refine wpAny_bind (m := truthy (.bool _)) (wpAny_truthy_bool ?_)) | wp_step)) fun _ _ e => e)))
    | wp_step)
theorem ne_K {L : Addr} {h₀ : Heap} {m : Str → Option Value} {b tb : Value} {Q : Value → Shared → Prop} (hu : A.in1.units < cLine) (hu0 : A.units < cLine) (XK : K.In s.heap) (I : PySem.W.InstAt s.heap x ox C od) (hb : PySem.W.Looks (model prog w) s.heap (typeOf b) tb) (hn : PySem.W.notFirst K C tb = true)
    (hne : PySem.W.findIn K (.ref C) "__ne__" = some (some (.builtin "object.__ne__"))) (hm : PySem.W.mroIn K C (.type "object") = some true) (hs : PySem.W.findIn K (.ref C) "__eq__" = some (some (.ref f))) (hf : PySem.W.isFn K (.ref f) = true)
    (h : wpAny (model prog w) A.in1 (call (.ref f) [.ref x, b]) (fun v s' => ∃ k, v = .bool k ∧ Q (.bool (!k)) s') E s) : wpAny (model prog w) A (richCompare .NotEq (.ref x) b) Q E s := by
  have one : wpAny (model prog w) A (tryCompare (.ref x) "__ne__" b) (fun r s' => ∃ v, r = some v ∧ Q v s') E s := by
    unfold tryCompare
    refine wpAny_bind (ifBound_B XK I hne PySem.F.cmp_object.ne.bind (call_objNe hu XK I hm hs hf (wpAny_mono h (fun v s' hv => ?_) fun _ _ e => e)))
    obtain ⟨k, rfl, hq⟩ := hv
    exact ⟨k, rfl, wpAny_pure ⟨_, rfl, hq⟩⟩
  unfold richCompare
  simp only [oneThing_ref]
  refine wpAny_holding (wpAny_bind (wpAny_cRoomFor hu0 ?_))
  refine wpAny_bind (I.type.here (wpAny_bind (hb.here ?_)))
  split
  · rename_i q
    have e : PySem.W.subIn K tb (.ref C) = some false := by
      rcases Bool.or_eq_true_iff.mp hn with e | e
      · rw [beq_iff_eq.mp e] at q; simp at q
      · exact beq_iff_eq.mp e
    refine wpAny_bind ((PySem.W.looks_subIn XK e).here ?_)
    simp only [Bool.false_eq_true, if_false]
    refine wpAny_bind (wpAny_mono one (fun r s' z => ?_) fun _ _ e => e)
    obtain ⟨v, rfl, hq⟩ := z
    exact wpAny_pure hq
  · refine wpAny_bind (wpAny_pure ?_)
    simp only [Bool.false_eq_true, if_false]
    refine wpAny_bind (wpAny_mono one (fun r s' z => ?_) fun _ _ e => e)
    obtain ⟨v, rfl, hq⟩ := z
    exact wpAny_pure hq
end
section
variable {X : Cx} {CX : CXT} {n : Nat} {f C : Addr} {fd : FuncData} {ps : List Str} {sp : Sp} {E : XK}
def rNeO (K : PySem.W.Frag) (C : Addr) (sp : Sp) (E : XK) : R2 := fun x y H Q => ∃ a dx fs t, x = .ref a ∧ H a = some (.ins C dx fs) ∧ TyX K H y t ∧ PySem.W.notFirst K C t = true ∧ sp [x, y] H (fun v H' => ∃ b, v = .bl b ∧ Q (.bl (!b)) H') E
theorem op_neO (F : FnOk X.prog X.w X.K X.mg X.base CX n f fd ps sp) (hs : PySem.W.findIn X.K (.ref C) "__eq__" = some (some (.ref f))) (hf : PySem.W.isFn X.K (.ref f) = true) (hb : Binds X.K fd ps []) (hx : Passes CX X E)
    (hne : PySem.W.findIn X.K (.ref C) "__ne__" = some (some (.builtin "object.__ne__"))) (hm : PySem.W.mroIn X.K C (.type "object") = some true) (hr : Room (n + 1) X.A) : OpR X (compareOp .NotEq) (rNeO X.K C sp E) := by
  intro pins s σ H x y u v Q I rx ry hq
  obtain ⟨a, dx, fs, t, rfl, ha, ty, hn, q⟩ := hq
  cases rx
  obtain ⟨mA, J, _⟩ := ins_get I.hok ha
  obtain ⟨od, J, _⟩ := J.look
  obtain ⟨P, Z, p, _⟩ := kit_of I ry ty
  have sb : Sub X (n + 1) X.A := ⟨hr, rfl⟩
  show wpAny (model X.prog X.w) X.A (richCompare .NotEq (.ref a) v) (EP X pins σ Q) X.xe s
  have r2 : Vals [V.ref a, y] [Value.ref a, v] := .cons rfl (.cons ry .nil)
  refine ne_K (L := 0) (h₀ := s.heap) (m := fun _ => none) sb.in1.room.units0 sb.room.units0 I.kIn J (Z.ty _ _ I.kIn p) hn hne hm hs hf ?_
  refine wpAny_mono (call_sub F hb hx sb.in1 I r2 q) (fun r s' z => ?_) fun _ _ x => x
  obtain ⟨z, H', I', rz, b, rfl, q'⟩ := z
  cases (show r = Value.bool b from rz)
  exact ⟨b, rfl, .bl (!b), H', I', rfl, q'⟩
end

/-! ### x in [z], [x] == [y], (c, x) == (c, y), by ==  -/
section
open AutoSeq1 (wpAny_loadPart')
open MeetsSeq MeetsSeq2 MeetsSeq3 SeqRoads2 SeqAt
variable {prog : Program} {w : World} {A : Around} {R : Result → Shared → Prop}
/-- the list at l holds one thing -/
def One (s : Shared) (l : Addr) (z : Value) : Prop := ∃ (items : Array Value) (n : Nat), s.heap.get? l = some { cls := .type "list", data := .seq items n } ∧ items[(0 : Int).toNat]? = some z ∧ items[((0 : Int) + 1).toNat]? = none ∧ items.size = 1
theorem One.of {s : Shared} {l : Addr} {z : Value} {n : Nat} (h : s.heap.get? l = some { cls := .type "list", data := .seq #[z] n }) : One s l z := ⟨#[z], n, h, rfl, rfl, rfl⟩
theorem contains_loop1 (l : Addr) (x z : Value) {s : Shared} (h0 : One s l z) (h : R (.ok (.ret (.bool false))) s) :
    wpAny (model prog w) A.in1 (Builtin.«list.__contains__.loop» ⟨[.ref l, x, rawInt ((0 : Int) + 1)], []⟩) (GQ.FinOf prog w A R) (fun e s' => R (.error e) s') s := by
  obtain ⟨items, n, hl, e0, e1, _⟩ := h0
  obtain ⟨hp, g, d, tk, os⟩ := s
  wp_walk using wpAny_loadPart' hl
  rw [e1]
  wp_walk
  exact h
theorem contains1 (l : Addr) (x z : Value) {s : Shared} (h0 : One s l z)
    (he : wpAny (model prog w) A.in1 (eqBool z x) (fun b s' => (∃ z', One s' l z') ∧ R (.ok (.ret (.bool b))) s') (fun e s' => R (.error e) s') s) :
    wpAny (model prog w) A.in1 (Builtin.«list.__contains__» ⟨[.ref l, x], []⟩) (GQ.FinOf prog w A R) (fun e s' => R (.error e) s') s := by
  have step : wpAny (model prog w) A.in1 (Builtin.«list.__contains__.loop» ⟨[.ref l, x, rawInt (0 : Int)], []⟩) (GQ.FinOf prog w A R) (fun e s' => R (.error e) s') s := by
    obtain ⟨items, n, hl, e0, e1, _⟩ := h0
    obtain ⟨hp, g, d, tk, os⟩ := s
    wp_walk using wpAny_loadPart' hl
    rw [e0]
    refine wpAny_bind (wpAny_mono he (fun b s2 h2 => ?_) fun _ _ x => x)
    obtain ⟨⟨z', p2⟩, q2⟩ := h2
    cases b with
    | true =>
      wp_walk
      exact q2
    | false =>
      have nx := contains_loop1 (A := A) (w := w) (prog := prog) (R := R) l x z' p2 q2
      obtain ⟨hp2, g2, d2, tk2, os2⟩ := s2
      wp_walk
      exact ⟨plainId_quiet plain_contains_loop _, codeAny_builtin entry_contains_loop (by
        rw [Around.under_plainId plain_contains_loop _]
        exact nx)⟩
  obtain ⟨items, n, hl, e0, e1, _⟩ := h0
  obtain ⟨hp, g, d, tk, os⟩ := s
  wp_walk using wpAny_loadPart' hl
  exact ⟨plainId_quiet plain_contains_loop _, codeAny_builtin entry_contains_loop (by
    rw [Around.under_plainId plain_contains_loop _]
    exact step)⟩
theorem eq_list1_loop (l b : Addr) (x y : Value) {s : Shared} (h0 : One s l x ∧ One s b y) (h : R (.ok (.ret (.bool true))) s) :
    wpAny (model prog w) A.in1 (Builtin.«list.__eq__.loop» ⟨[.ref l, .ref b, rawInt ((0 : Int) + 1), rawInt 2], []⟩) (GQ.FinOf prog w A R) (fun e s' => R (.error e) s') s := by
  obtain ⟨⟨items, n, hl, e0, e1, z1⟩, items2, n2, hb, f0, f1, z2⟩ := h0
  obtain ⟨hp, g, d, tk, os⟩ := s
  wp_walk using wpAny_loadPart' hl, wpAny_loadPart' hb
  rw [e1, f1]
  wp_walk using wpAny_loadPart' hl, wpAny_loadPart' hb
  show R (.ok (.ret (.bool (items.size == items2.size)))) _
  rw [z1, z2]
  exact h
theorem eq_list1 (l b : Addr) (x y : Value) {s : Shared} (h0 : One s l x ∧ One s b y)
    (he : wpAny (model prog w) A.in1 (eqBool x y) (fun k s' => (∃ x' y', One s' l x' ∧ One s' b y') ∧ R (.ok (.ret (.bool k))) s') (fun e s' => R (.error e) s') s) :
    wpAny (model prog w) A.in1 (Builtin.«list.__eq__» ⟨[.ref l, .ref b], []⟩) (GQ.FinOf prog w A R) (fun e s' => R (.error e) s') s := by
  have step : wpAny (model prog w) A.in1 (Builtin.«list.__eq__.loop» ⟨[.ref l, .ref b, rawInt (0 : Int), rawInt 2], []⟩) (GQ.FinOf prog w A R) (fun e s' => R (.error e) s') s := by
    obtain ⟨⟨items, n, hl, e0, e1, z1⟩, items2, n2, hb, f0, f1, z2⟩ := h0
    obtain ⟨hp, g, d, tk, os⟩ := s
    wp_walk using wpAny_loadPart' hl, wpAny_loadPart' hb
    rw [e0, f0]
    refine wpAny_bind (wpAny_mono he (fun k s2 h2 => ?_) fun _ _ x => x)
    obtain ⟨⟨x', y', p2⟩, q2⟩ := h2
    cases k with
    | true =>
      have nx := eq_list1_loop (A := A) (w := w) (prog := prog) (R := R) l b x' y' p2 q2
      obtain ⟨hp2, g2, d2, tk2, os2⟩ := s2
      wp_walk
      exact ⟨plainId_quiet plain_eq_loop _, codeAny_builtin entry_eq_loop (by
        rw [Around.under_plainId plain_eq_loop _]
        exact nx)⟩
    | false =>
      obtain ⟨⟨items, n, hl, e0, e1, z1⟩, items2, n2, hb, f0, f1, z2⟩ := p2
      obtain ⟨hp2, g2, d2, tk2, os2⟩ := s2
      wp_walk using wpAny_loadPart' hl, wpAny_loadPart' hb
      rw [e0, f0]
      wp_walk
      exact q2
  obtain ⟨⟨items, n, hl, e0, e1, z1⟩, items2, n2, hb, f0, f1, z2⟩ := h0
  obtain ⟨hp, g, d, tk, os⟩ := s
  have f3 := AutoSeq1.sub_list_list
  have hne : ¬ (items.size != items2.size) = true := by simp [z1, z2]
  wp_walk using wpAny_loadPart' hl, wpAny_loadPart' hb
  exact ⟨plainId_quiet plain_eq_loop _, codeAny_builtin entry_eq_loop (by
    rw [Around.under_plainId plain_eq_loop _]
    exact step)⟩
/-- tuples of any length: each two of items compared in turn, to the first that differ; e tells how each comes out -/
theorem tuple_eqB (l b : Addr) (items items2 : Array Value) (n n2 : Nat) (dd dd2 : Option Addr) (sl sl2 : Array (Option Value)) (hsz : items.size = items2.size) (I : Nat → Shared → Prop) (F : Shared → Prop)
    (turn : ∀ i (h1 : i < items.size) (h2 : i < items2.size) s, I i s → wpAny (model prog w) A.in1 (eqBool items[i] items2[i]) (fun r s' => if r = true then I (i + 1) s' else F s') (fun e s' => R (.error e) s') s)
    (fin : ∀ s, I items.size s → R (.ok (.ret (.bool true))) s) (bad : ∀ s, F s → R (.ok (.ret (.bool false))) s) {s : Shared} (hl1 : s.heap.get? l = some { cls := .type "tuple", dict := dd, data := .seq items n, slots := sl }) (hb1 : s.heap.get? b = some { cls := .type "tuple", dict := dd2, data := .seq items2 n2, slots := sl2 }) (h : I 0 s) :
    wpAny (model prog w) A.in1 (Builtin.«tuple.__eq__» ⟨[.ref l, .ref b], []⟩) (GQ.FinOf prog w A R) (fun e s' => R (.error e) s') s := by
  have f2 := AutoSeq1.sub_tuple_tuple
  have hZ : (items.toList.zip items2.toList).length = items.size := by simp [hsz]
  have h0 := h
  obtain ⟨hp, g, d, tk, os⟩ := s
  wp_walk using wpAny_loadPart' hl1, wpAny_loadPart' hb1, wpAny_forIn_list _ (fun rest b s' => b.1 = none ∧ ∃ i, rest = (items.toList.zip items2.toList).drop i ∧ i ≤ items.size ∧ I i s') _
  case turn =>
    rintro ⟨y, x⟩ rest b s' ⟨hb', i, hz, hi, hI⟩
    have hlt : i < (items.toList.zip items2.toList).length := by
      rcases Nat.lt_or_ge i (items.toList.zip items2.toList).length with h' | h'
      · exact h'
      · rw [List.drop_of_length_le h'] at hz; cases hz
    have h1 : i < items.size := hZ ▸ hlt
    have h2 : i < items2.size := hsz ▸ h1
    rw [List.drop_eq_getElem_cons hlt] at hz
    injection hz with hyx hrest
    have hy : y = items[i] := by have := congrArg Prod.fst hyx; simpa using this
    have hx : x = items2[i] := by have := congrArg Prod.snd hyx; simpa using this
    subst hy hx
    refine wpAny_bind (wpAny_mono (turn i h1 h2 s' hI) (fun r s2 q2 => ?_) fun _ _ x => x)
    cases r with
    | true =>
      wp_walk
      exact ⟨rfl, i + 1, hrest, h1, q2⟩
    | false =>
      wp_walk
      exact bad _ q2
  case fin =>
    rintro ⟨b1, b2⟩ s' ⟨hb', i, hz, hi, hI⟩
    simp only at hb'
    subst hb'
    have hge : items.size ≤ i := by
      rcases Nat.lt_or_ge i (items.toList.zip items2.toList).length with h' | h'
      · rw [List.drop_eq_getElem_cons h'] at hz; cases hz
      · exact hZ ▸ h'
    have hi' : i = items.size := by omega
    have hR : R (.ok (.ret (.bool true))) s' := fin s' (hi' ▸ hI)
    wp_walk
    simpa [Builtin.Tuple.tupleCompareSizes, hsz] using hR
  case h =>
    exact ⟨rfl, 0, rfl, Nat.zero_le _, h0⟩
end
section
variable {prog : Program} {w : World} {A : Around} {R : Result → Shared → Prop}
theorem tuple_eq2 (l b : Addr) (c1 c2 x y : Value) (n n2 : Nat) (dd dd2 : Option Addr) (sl sl2 : Array (Option Value)) {s : Shared} (Tr Fa : Shared → Prop)
    (t0 : wpAny (model prog w) A.in1 (eqBool c1 c2) (fun r s' => r = true ∧ s' = s) (fun e s' => R (.error e) s') s)
    (t1 : wpAny (model prog w) A.in1 (eqBool x y) (fun r s' => if r = true then Tr s' else Fa s') (fun e s' => R (.error e) s') s)
    (fin : ∀ s, Tr s → R (.ok (.ret (.bool true))) s) (bad : ∀ s, Fa s → R (.ok (.ret (.bool false))) s) (hl1 : s.heap.get? l = some { cls := .type "tuple", dict := dd, data := .seq #[c1, x] n, slots := sl }) (hb1 : s.heap.get? b = some { cls := .type "tuple", dict := dd2, data := .seq #[c2, y] n2, slots := sl2 }) :
    wpAny (model prog w) A.in1 (Builtin.«tuple.__eq__» ⟨[.ref l, .ref b], []⟩) (GQ.FinOf prog w A R) (fun e s' => R (.error e) s') s := by
  refine tuple_eqB l b #[c1, x] #[c2, y] n n2 dd dd2 sl sl2 rfl (fun i s' => (i = 0 ∧ s' = s) ∨ (i = 1 ∧ s' = s) ∨ (i = 2 ∧ Tr s')) Fa (fun i h1 h2 s' hI => ?_) (fun s' hI => ?_) bad hl1 hb1 (.inl ⟨rfl, rfl⟩)
  · rcases hI with ⟨rfl, rfl⟩ | ⟨rfl, rfl⟩ | ⟨rfl, _⟩
    · show wpAny _ _ (eqBool c1 c2) _ _ _
      refine wpAny_mono t0 (fun r s2 z => ?_) fun _ _ x => x
      obtain ⟨rfl, rfl⟩ := z
      rw [if_pos rfl]
      exact .inr (.inl ⟨rfl, rfl⟩)
    · show wpAny _ _ (eqBool x y) _ _ _
      refine wpAny_mono t1 (fun r s2 z => ?_) fun _ _ x => x
      cases r with
      | true =>
        rw [if_pos rfl] at z ⊢
        exact .inr (.inr ⟨rfl, z⟩)
      | false =>
        rw [if_neg Bool.false_ne_true] at z ⊢
        exact z
    · exact absurd h1 (by simp)
  · rcases hI with ⟨e, _⟩ | ⟨e, _⟩ | ⟨_, h⟩
    · exact absurd e (by simp)
    · exact absurd e (by simp)
    · exact fin s' h
end
/-! ### the operators -/
section
open SeqRoads2
variable {X : Cx} {n : Nat} {r : R2}
theorem one_of {pins : List (Addr × Obj)} {σ : L2.St} {H : Hp} {s : Shared} {a : Addr} {x : V} (I : L2.Inv X pins σ H s) (h : H a = some (.lst [x])) : ∃ u, RelV x u ∧ One s a u := by
  obtain ⟨z, its, k, rv, e⟩ := I.hok a _ h
  cases rv with
  | cons r1 r2 =>
    cases r2
    exact ⟨_, r1, One.of e⟩
theorem one_eq {s : Shared} {a : Addr} {u v : Value} (h1 : One s a u) (h2 : One s a v) : u = v := by
  obtain ⟨i1, n1, g1, e1, _, _⟩ := h1
  obtain ⟨i2, n2, g2, e2, _, _⟩ := h2
  rw [g1] at g2
  cases g2
  rw [e1] at e2
  exact Option.some.inj e2
/-- x in [z] -/
def rIn1 (r : R2) : R2 := fun x y H Q => ∃ p z, y = .ref p ∧ H p = some (.lst [z]) ∧ r z x H (fun t H' => Ext H H' ∧ Q t H')
theorem op_in1 (h : EqO X n r) (hr : Room (n + 1) X.A) : OpR X (compareOp .In) (rIn1 r) := by
  intro pins s σ H x y v u Q I rx ry hq
  obtain ⟨p, z, rfl, hp, q⟩ := hq
  cases ry
  have sb : Sub X (n + 1) X.A := ⟨hr, rfl⟩
  obtain ⟨zu, rz, o1⟩ := one_of I hp
  obtain ⟨items, k, hl, _⟩ := id o1
  show wpAny _ X.A (do return .bool (← contains (.ref p) v)) (EP X pins σ Q) X.xe s
  refine wpAny_bind (wpAny_contains_slot ⟨_, hl, rfl⟩ PySem.F.slot_list_contains (wpAny_mono (GQ.call_here (A := X.A) (E := X.xe) (Q := fun t s' => ∃ b H', t = .bool b ∧ L2.Inv X pins σ H' s' ∧ Q (.bl b) H') PySem.F.slot_list_contains ⟨_, hl, rfl⟩ PySem.F.entry_list_contains (PySem.F.args_list_contains_2 _ _) ?_) (fun t s' hv => ?_) fun _ _ e => e))
  · refine contains1 p v zu o1 ?_
    refine wpAny_mono (h X.A.in1 pins s σ H z x zu v _ sb.in1 I rz rx q) (fun b s' hb => ?_) fun _ _ x => x
    obtain ⟨H', I', ex, q'⟩ := hb
    obtain ⟨zu', rz', o2⟩ := one_of I' (ex _ _ hp)
    exact ⟨⟨zu', o2⟩, b, H', rfl, I', q'⟩
  · obtain ⟨b, H', rfl, I', q'⟩ := hv
    exact wpAny_truthy_bool (wpAny_pure ⟨.bl b, H', I', rfl, q'⟩)
/-- [x] == [y] -/
def rEqL1 (r : R2) : R2 := fun u v H Q => ∃ a b x y, u = .ref a ∧ v = .ref b ∧ H a = some (.lst [x]) ∧ H b = some (.lst [y]) ∧ r x y H (fun t H' => Ext H H' ∧ Q t H')
theorem rc_list1 (h : EqO X n r) : RcO X (n + 1) (rEqL1 r) := by
  intro A pins s σ H x y u v Q sb I rx ry hq
  obtain ⟨a, b, x1, y1, rfl, rfl, ha, hb, q⟩ := hq
  cases rx
  cases ry
  obtain ⟨xu, rxu, o1⟩ := one_of I ha
  obtain ⟨yu, ryu, o2⟩ := one_of I hb
  obtain ⟨items, k, hl, _⟩ := id o1
  obtain ⟨items2, k2, hl2, _⟩ := id o2
  refine wpAny_richCompare_same_room (op := .Eq) ⟨_, hl, rfl⟩ ⟨_, hl2, rfl⟩ PySem.F.slot_list_eq (GQ.call_here PySem.F.slot_list_eq ⟨_, hl, rfl⟩ PySem.F.entry_list_eq (PySem.F.args_list_eq_2 _ _) ?_) sb.room.units0
  refine eq_list1 (R := wants (fun v s' => v ≠ .notImplemented ∧ ∃ b H', v = .bool b ∧ L2.Inv X pins σ H' s' ∧ Q (.bl b) H') X.xe) a b xu yu ⟨o1, o2⟩ ?_
  refine wpAny_mono (h A.in1 pins s σ H x1 y1 xu yu _ sb.in1 I rxu ryu q) (fun k s' hk => ?_) fun _ _ x => x
  obtain ⟨H', I', ex, q'⟩ := hk
  obtain ⟨xu', _, p1⟩ := one_of I' (ex _ _ ha)
  obtain ⟨yu', _, p2⟩ := one_of I' (ex _ _ hb)
  exact ⟨⟨xu', yu', p1, p2⟩, (fun z => nomatch z), k, H', rfl, I', q'⟩
/-- (c, x) == (d, y), c and d ints that are the same -/
def rEqT2 (K : PySem.W.Frag) (r : R2) : R2 := fun u v H Q => ∃ a b c x y, u = .ref a ∧ v = .ref b ∧ SqT K H a [.int c, x] ∧ SqT K H b [.int c, y] ∧ r x y H Q
theorem rc_tup2 (h : EqO X n r) : RcO X (n + 1) (rEqT2 X.K r) := by
  intro A pins s σ H x y u v Q sb I rx ry hq
  obtain ⟨a, b, c, x1, y1, rfl, rfl, ha, hb, q⟩ := hq
  cases rx
  cases ry
  obtain ⟨its, rv, pl, _⟩ := I.tuple ha
  obtain ⟨its2, rv2, pl2, _⟩ := I.tuple hb
  obtain ⟨⟨cls, dd, data, sl⟩, ho, hc, k, hd⟩ := id pl
  obtain ⟨⟨cls2, dd2, data2, sl2⟩, ho2, hc2, k2, hd2⟩ := id pl2
  simp only at hc hd hc2 hd2
  subst hc hd hc2 hd2
  cases rv with
  | cons r1 rv =>
  cases rv with
  | cons r2 rv =>
  cases rv
  cases rv2 with
  | cons q1 rv2 =>
  cases rv2 with
  | cons q2 rv2 =>
  cases rv2
  obtain ⟨t1, rfl⟩ := r1
  obtain ⟨t2, rfl⟩ := q1
  rename_i xu yu
  refine wpAny_richCompare_same_room (op := .Eq) ⟨_, ho, rfl⟩ ⟨_, ho2, rfl⟩ PySem.F.slot_tuple_eq (GQ.call_here PySem.F.slot_tuple_eq ⟨_, ho, rfl⟩ PySem.F.entry_tuple_eq (PySem.F.args_tuple_eq_2 _ _) ?_) sb.room.units0
  refine tuple_eq2 (R := wants (fun v s' => v ≠ .notImplemented ∧ ∃ b H', v = .bool b ∧ L2.Inv X pins σ H' s' ∧ Q (.bl b) H') X.xe) a b (.int c t1) (.int c t2) xu yu k k2 dd dd2 sl sl2
    (fun s' => ∃ H', L2.Inv X pins σ H' s' ∧ Q (.bl true) H') (fun s' => ∃ H', L2.Inv X pins σ H' s' ∧ Q (.bl false) H') ?_ ?_ ?_ ?_ ho ho2
  · exact (SeqAt.EqAt.int_int c t1 c t2) X.prog X.w _ _ ⟨beq_self_eq_true c, rfl⟩
  · refine wpAny_mono (h A.in1 pins s σ H x1 y1 xu yu _ sb.in1 I r2 q2 q) (fun k s2 hk => ?_) fun _ _ x => x
    obtain ⟨H', I', q'⟩ := hk
    cases k with
    | true => exact ⟨H', I', q'⟩
    | false => exact ⟨H', I', q'⟩
  · rintro s' ⟨H', I', q'⟩
    exact ⟨(fun z => nomatch z), true, H', rfl, I', q'⟩
  · rintro s' ⟨H', I', q'⟩
    exact ⟨(fun z => nomatch z), false, H', rfl, I', q'⟩
end

/-! ### str(x), repr(x), f"{x}" of an instance -/
section
variable {X : Cx} {CX : CXT} {n : Nat} {f C : Addr} {fd : FuncData} {ps : List Str} {sp : Sp} {E : XK}
def rTextO (C : Addr) (sp : Sp) (E : XK) : List V → Hp → VK → Prop := fun xs H Q => ∃ a dx fs, xs = [.ref a] ∧ H a = some (.ins C dx fs) ∧ sp xs H (fun v H' => ∃ z, v = .str z ∧ Q (.str z) H') E
theorem text_back {pins : List (Addr × Obj)} {σ : L2.St} {Q : VK} {r : Value} {s' : Shared} (z : EP X pins σ (fun v H' => ∃ z, v = .str z ∧ Q (.str z) H') r s') : PySem.W.StrBack (EP X pins σ Q) r s' := by
  obtain ⟨y, H', I', ry, z, rfl, q'⟩ := z
  obtain ⟨t, rfl⟩ := (show ∃ t, r = Value.str z t from ry)
  exact ⟨.str z, H', I', ⟨t, rfl⟩, q'⟩
theorem call_strO (F : FnOk X.prog X.w X.K X.mg X.base CX n f fd ps sp) (hs : PySem.W.findIn X.K (.ref C) "__str__" = some (some (.ref f))) (hf : PySem.W.isFn X.K (.ref f) = true) (hb : Binds X.K fd ps []) (hx : Passes CX X E) (hr : Room (n + 2) X.A) :
    CallR X (.type "str") (rTextO C sp E) := by
  intro pins s σ H xs us Q I r h
  obtain ⟨a, dx, fs, rfl, ha, q⟩ := h
  have r2 : Vals [V.ref a] [Value.ref a] := .cons rfl .nil
  rw [Vals.ref1 r]
  obtain ⟨mA, J, _⟩ := ins_get I.hok ha
  obtain ⟨od, J, _⟩ := J.look
  have sb : Sub X (n + 2) X.A := ⟨hr, rfl⟩
  exact PySem.W.kso_call sb.in1.in1.room.units0 I.kIn J hs hf (wpAny_mono (call_sub F hb hx sb.in1.in1 I r2 q) (fun r s' z => text_back z) fun _ _ x => x)
theorem call_reprO (F : FnOk X.prog X.w X.K X.mg X.base CX n f fd ps sp) (hs : PySem.W.findIn X.K (.ref C) "__repr__" = some (some (.ref f))) (hf : PySem.W.isFn X.K (.ref f) = true) (hb : Binds X.K fd ps []) (hx : Passes CX X E) (hr : Room (n + 1) X.A) :
    CallR X (.builtin "repr") (rTextO C sp E) := by
  intro pins s σ H xs us Q I r h
  obtain ⟨a, dx, fs, rfl, ha, q⟩ := h
  have r2 : Vals [V.ref a] [Value.ref a] := .cons rfl .nil
  rw [Vals.ref1 r]
  obtain ⟨mA, J, _⟩ := ins_get I.hok ha
  obtain ⟨od, J, _⟩ := J.look
  obtain ⟨m, hF⟩ := I.fr
  have sb : Sub X (n + 1) X.A := ⟨hr, rfl⟩
  exact PySem.W.repr_K sb.in1.room.units0 hF I.ok.mod.kin J hs hf (wpAny_mono (call_sub F hb hx sb.in1 I r2 q) (fun r s' z => text_back z) fun _ _ x => x)
def tFmtO (C : Addr) (sp : Sp) (E : XK) (te : TE) : TE := fun σ H Q => te σ H fun x H1 => rTextO C sp E [x] H1 Q
theorem pe_fmtO {e : Expr} {te : TE} {pos : Pos} (F : FnOk X.prog X.w X.K X.mg X.base CX n f fd ps sp) (hs : PySem.W.findIn X.K (.ref C) "__str__" = some (some (.ref f))) (hf : PySem.W.isFn X.K (.ref f) = true) (hb : Binds X.K fd ps []) (hx : Passes CX X E)
    (hfm : PySem.W.findIn X.K (.ref C) "__format__" = some (some (.builtin "object.__format__"))) (hm : PySem.W.mroIn X.K C (.type "object") = some true) (hr : Room (n + 1) X.A) (he : PE X e te) : PE X (.FormattedValue e (-1) none pos) (tFmtO C sp E te) := by
  refine ⟨fun pins s σ H Q I h => ?_⟩
  refine wpAny_FormattedValue_plain (thn (he.run pins s σ H _ I h) fun v s1 hv => ?_)
  obtain ⟨x, H1, I1, r1, a, dx, fs, e1, ha, q⟩ := hv
  cases e1
  cases r1
  have r2 : Vals [V.ref a] [Value.ref a] := .cons rfl .nil
  have I2 := I1.tok (s1.toks + 1)
  obtain ⟨mA, J, _⟩ := ins_get I1.hok ha
  obtain ⟨od, J, _⟩ := J.look
  have sb : Sub X (n + 1) X.A := ⟨hr, rfl⟩
  exact PySem.W.kfo_fieldS sb.in1.room.units0 I1.kIn J hfm hm hs hf (wpAny_mono (call_sub F hb hx sb.in1 I2 r2 q) (fun r s' z => text_back z) fun _ _ x => x)
end
end UO
namespace UO
open PySem L2
/-! ### what the top leaves of a class whose instances are compared -/
def sixT : List String := ["NoneType", "bool", "int", "str", "list", "tuple"]
structure InsX (K : PySem.W.Frag) (C : Addr) : Prop where
  cla : PySem.W.findIn K (.ref C) "__class__" = some (some (.builtin "object.__class__"))
  spe : PySem.W.specialIn K (.builtin "object.__class__") "__get__" = some (some (.builtin "getset_descriptor.__get__"))
  tak : PySem.W.takesIn K (.builtin "object.__class__") = some true
  mro : PySem.W.mroIn K C (.type "object") = some true
  ne : PySem.W.findIn K (.ref C) "__ne__" = some (some (.builtin "object.__ne__"))
  fmt : PySem.W.findIn K (.ref C) "__format__" = some (some (.builtin "object.__format__"))
  kit : ∀ T ∈ sixT, PySem.W.kitOne K (.type T) (.ref C) = some false
  sub : ∀ T ∈ sixT, PySem.W.mroIn K C (.type T) = some false
  fst : ∀ T ∈ sixT, PySem.W.subIn K (.type T) (.ref C) = some false
def insB (x : Str) (K : PySem.W.Frag) : Bool :=
  decide (PySem.W.findIn K (.ref (He.ga K x)) "__class__" = some (some (.builtin "object.__class__"))) && (decide (PySem.W.specialIn K (.builtin "object.__class__") "__get__" = some (some (.builtin "getset_descriptor.__get__"))) &&
  (decide (PySem.W.takesIn K (.builtin "object.__class__") = some true) && (decide (PySem.W.mroIn K (He.ga K x) (.type "object") = some true) && (decide (PySem.W.findIn K (.ref (He.ga K x)) "__ne__" = some (some (.builtin "object.__ne__"))) &&
  (decide (PySem.W.findIn K (.ref (He.ga K x)) "__format__" = some (some (.builtin "object.__format__"))) && (sixT.all (fun T => decide (PySem.W.kitOne K (.type T) (.ref (He.ga K x)) = some false)) &&
  (sixT.all (fun T => decide (PySem.W.mroIn K (He.ga K x) (.type T) = some false)) && sixT.all (fun T => decide (PySem.W.subIn K (.type T) (.ref (He.ga K x)) = some false)))))))))
theorem insB_ok {x : Str} {K : PySem.W.Frag} (h : insB x K = true) : InsX K (He.ga K x) := by
  obtain ⟨h1, h⟩ := He.ba h
  obtain ⟨h2, h⟩ := He.ba h
  obtain ⟨h3, h⟩ := He.ba h
  obtain ⟨h4, h⟩ := He.ba h
  obtain ⟨h5, h⟩ := He.ba h
  obtain ⟨h6, h⟩ := He.ba h
  obtain ⟨h7, h⟩ := He.ba h
  obtain ⟨h8, h9⟩ := He.ba h
  exact ⟨of_decide_eq_true h1, of_decide_eq_true h2, of_decide_eq_true h3, of_decide_eq_true h4, of_decide_eq_true h5, of_decide_eq_true h6, fun T hT => of_decide_eq_true (List.all_eq_true.mp h7 T hT),
    fun T hT => of_decide_eq_true (List.all_eq_true.mp h8 T hT), fun T hT => of_decide_eq_true (List.all_eq_true.mp h9 T hT)⟩
theorem InsX.ty {K : PySem.W.Frag} {C : Addr} (ix : InsX K C) (cl : Cls K C) {H : Hp} {a dx : Addr} {fs : List (Str × V)} (h : H a = some (.ins C dx fs)) : TyX K H (.ref a) (.ref C) := .base (.ins h cl ix.cla ix.spe ix.tak ix.mro)
theorem kit_self (K : PySem.W.Frag) (C : Addr) : PySem.W.kitOne K (.ref C) (.ref C) = some true := by
  unfold PySem.W.kitOne
  rw [if_pos (beq_self_eq_true _)]
theorem first_self (K : PySem.W.Frag) (C : Addr) : PySem.W.notFirst K C (.ref C) = true := by
  unfold PySem.W.notFirst
  rw [beq_self_eq_true, Bool.true_or]
theorem InsX.first {K : PySem.W.Frag} {C : Addr} (ix : InsX K C) {T : String} (hT : T ∈ sixT) : PySem.W.notFirst K C (.type T) = true := by
  unfold PySem.W.notFirst
  rw [ix.fst T hT, beq_self_eq_true, Bool.or_true]
theorem plain_ty {K : PySem.W.Frag} {H : Hp} {x : V} {T : String} (h : plainTy H K x T) : TyX K H x (.type T) ∧ T ∈ sixT := by
  cases x with
  | non => cases (show T = "NoneType" from h); exact ⟨.base .non, by decide⟩
  | bl b => cases (show T = "bool" from h); exact ⟨.base (.bl b), by decide⟩
  | int i => cases (show T = "int" from h); exact ⟨.base (.int i), by decide⟩
  | str z => cases (show T = "str" from h); exact ⟨.base (.str z), by decide⟩
  | ref p =>
    rcases h with ⟨rfl, xs, (h | ⟨o, h⟩) | ⟨o, its, n, h1, h2, _⟩⟩ | ⟨rfl, xs, (h | ⟨o, h⟩) | ⟨o, its, n, h1, h2, _⟩⟩
    · exact ⟨.base (.lst h), by decide⟩
    · exact ⟨.base (.frz h), by decide⟩
    · exact ⟨.kList h1 h2, by decide⟩
    · exact ⟨.base (.tup h), by decide⟩
    · exact ⟨.fTuple h, by decide⟩
    · exact ⟨.kTuple h1 h2, by decide⟩
  | _ => exact False.elim h
/-! ### a Hook with one more Bool -/
abbrev AlB : Type := He.AlD × Bool
def obsB (n : Nat) (fa : List He.Fa) (fn : List He.DefD) (ex : PySem.W.Frag → Bool) (g : Addr → Option Obj) : AlB := (He.obsDG n fa fn g, ex (He.frG g (He.asD g n)))
def hookB (n : Nat) (fa : List He.Fa) (fn : List He.DefD) (ex : PySem.W.Frag → Bool) : PySem.W.Hook where
  α := AlB
  obs := fun s => obsB n fa fn ex s.heap.get?
  val := fun _ => (He.valD fn, true)
  says := fun _ h => ∃ K : PySem.W.Frag, K.In h ∧ He.SaysD fa fn K ∧ ex K = true
  of := fun _ _ e => ⟨_, He.frG_in, congrArg (fun z : AlB => z.1) e, congrArg (fun z : AlB => z.2) e⟩
  keeps := fun _ _ _ ⟨K, hK, c⟩ k => ⟨K, PySem.W.Frag.In.keeps hK k, c⟩
theorem obsB_eq {n : Nat} {fa : List He.Fa} {fn : List He.DefD} {ex : PySem.W.Frag → Bool} {g : Addr → Option Obj} {s : Shared} (h : ∀ a, g a = s.heap.get? a) : obsB n fa fn ex g = (hookB n fa fn ex).obs s := by
  have e : g = s.heap.get? := funext h
  rw [e] <;> rfl
end UO
namespace UO
open PySem L2
/-! ### keyword defaults that are empty tuples -/
def kwAdr (K : PySem.W.Frag) (f : Str × Option Str) (x : Str) : Addr := match K.lookup (He.fAd K f) with
  | some ⟨_, _, .func fd, _⟩ => (match fd.kwdefaults with
    | .ref D => (match PySem.W.nsIn K D x with
      | some (some (.ref a)) => a
      | _ => 0)
    | _ => 0)
  | _ => 0
def tup0B (K : PySem.W.Frag) (a : Addr) : Bool := match K.lookup a with
  | some ⟨.type c, _, .seq its _, _⟩ => decide (c = "tuple") && decide (its.size = 0)
  | _ => false
theorem tup0B_ok {K : PySem.W.Frag} {a : Addr} (h : tup0B K a = true) (H : Hp) : SqT K H a [] := by
  unfold tup0B at h
  cases q : K.lookup a with
  | none =>
    rw [q] at h
    cases h
  | some o =>
    obtain ⟨oc, od, dt, osl⟩ := o
    rw [q] at h
    cases oc with
    | type c =>
      cases dt with
      | seq its n =>
        obtain ⟨h1, h2⟩ := He.ba (show (decide (c = "tuple") && decide (its.size = 0)) = true from h)
        have e : its.size = 0 := of_decide_eq_true h2
        refine .inr ⟨_, its, n, q, congrArg Value.type (of_decide_eq_true h1), rfl, by rw [e]; exact Nat.zero_le _, ?_⟩
        rw [Array.eq_empty_of_size_eq_zero e]
        exact .nil
      | _ => cases h
    | _ => cases dt <;> cases h
end UO

namespace UO
open PySem L2
/-! ### two classes, two rules -/
structure PairX (K : PySem.W.Frag) (C D : Addr) : Prop where
  kit : PySem.W.kitOne K (.ref C) (.ref D) = some false
  fst : PySem.W.notFirst K C (.ref D) = true
def pairB (x y : Str) (K : PySem.W.Frag) : Bool := decide (PySem.W.kitOne K (.ref (He.ga K x)) (.ref (He.ga K y)) = some false) && PySem.W.notFirst K (He.ga K x) (.ref (He.ga K y))
theorem pairB_ok {x y : Str} {K : PySem.W.Frag} (h : pairB x y K = true) : PairX K (He.ga K x) (He.ga K y) := by
  obtain ⟨h1, h2⟩ := He.ba h
  exact ⟨of_decide_eq_true h1, h2⟩
def rOr (r1 r2 : R2) : R2 := fun x y H Q => r1 x y H Q ∨ r2 x y H Q
theorem op_or {X : Cx} {f : Value → Value → Sem Value} {r1 r2 : R2} (h1 : OpR X f r1) (h2 : OpR X f r2) : OpR X f (rOr r1 r2) := by
  intro pins s σ H x y v u Q I rx ry h
  rcases h with h | h
  · exact h1 pins s σ H x y v u Q I rx ry h
  · exact h2 pins s σ H x y v u Q I rx ry h
end UO
/-! own layer: the order of texts, lists of pairs of texts, sets of texts, min(default=), sorted pairs -/
namespace UP
open PySem L2 UW

/-! ### the order of texts -/
def ltS (x y : Str) : Bool := decide (x.cps.toList < y.cps.toList)
def leS (x y : Str) : Bool := !ltS y x
theorem ltS_irr (x : Str) : ltS x x = false := decide_eq_false (List.lt_irrefl _)
theorem ltS_tr {x y z : Str} (h : ltS x y = true) (g : ltS y z = true) : ltS x z = true := decide_eq_true (List.lt_trans (of_decide_eq_true h) (of_decide_eq_true g))
theorem ltS_or {x y : Str} (h : ltS x y = false) (n : x ≠ y) : ltS y x = true := by
  have h1 : ¬ x.cps.toList < y.cps.toList := of_decide_eq_false h
  refine decide_eq_true ?_
  rcases Classical.em (y.cps.toList < x.cps.toList) with h2 | h2
  · exact h2
  · exact absurd (str_ext (List.le_antisymm (List.not_lt.mp h2) (List.not_lt.mp h1))) n
theorem leS_refl (x : Str) : leS x x = true := by
  unfold leS
  rw [ltS_irr]
  rfl
theorem leS_anti {x y : Str} (h : leS x y = true) (g : leS y x = true) : x = y := by
  rcases Classical.em (x = y) with e | e
  · exact e
  · have h1 : ltS y x = false := by
      unfold leS at h
      cases q : ltS y x
      · rfl
      · rw [q] at h
        cases h
    have := ltS_or h1 (fun z => e z.symm)
    unfold leS at g
    rw [this] at g
    cases g
theorem leS_tot (x y : Str) : leS x y = true ∨ leS y x = true := by
  unfold leS
  cases q : ltS y x
  · exact .inl rfl
  · refine .inr ?_
    cases p : ltS x y
    · rfl
    · have := ltS_tr q p
      rw [ltS_irr] at this
      cases this
theorem leS_of_lt {x y : Str} (h : ltS x y = true) : leS x y = true := by
  rcases leS_tot x y with g | g
  · exact g
  · unfold leS at g
    rw [h] at g
    cases g
theorem leS_tr {x y z : Str} (h : leS x y = true) (g : leS y z = true) : leS x z = true := by
  rcases Classical.em (x = y) with e | e
  · rw [e]
    exact g
  rcases Classical.em (y = z) with e' | e'
  · rw [← e']
    exact h
  have a : ltS x y = true := by
    unfold leS at h
    refine ltS_or ?_ (fun q => e q.symm)
    cases q : ltS y x
    · rfl
    · rw [q] at h
      cases h
  have b : ltS y z = true := by
    unfold leS at g
    refine ltS_or ?_ (fun q => e' q.symm)
    cases q : ltS z y
    · rfl
    · rw [q] at g
      cases g
  exact leS_of_lt (ltS_tr a b)
theorem rising_pw : ∀ {p : Str} {xs : List Str}, PyProof.Rows.risingS p xs = true → (p :: xs).Pairwise fun x y => leS x y = true
  | p, [], _ => List.pairwise_singleton ..
  | p, x :: xs, h => by
    unfold PyProof.Rows.risingS at h
    obtain ⟨h1, h2⟩ := Bool.and_eq_true_iff.mp h
    have ih := rising_pw h2
    have hpx : leS p x = true := by
      unfold leS ltS
      rw [← PyProof.Rows.ltCps_eq]
      exact h1
    refine List.pairwise_cons.mpr ⟨fun y hy => ?_, ih⟩
    rcases List.mem_cons.mp hy with e | hy
    · rw [e]
      exact hpx
    · exact leS_tr hpx ((List.pairwise_cons.mp ih).1 y hy)
theorem sorted_pw {xs : List Str} (h : PyProof.Rows.sortedS xs = true) : xs.Pairwise fun x y => leS x y = true := by
  cases xs with
  | nil => exact List.Pairwise.nil
  | cons x xs => exact rising_pw h
/-- two risings of one bag are one -/
theorem pw_uniq {α : Type} {r : α → α → Prop} (an : ∀ x y, r x y → r y x → x = y) : ∀ {xs ys : List α}, xs.Perm ys → xs.Pairwise r → ys.Pairwise r → xs = ys
  | [], ys, p, _, _ => (List.Perm.eq_nil p.symm).symm
  | x :: xs, [], p, _, _ => absurd p.length_eq (by simp)
  | x :: xs, y :: ys, p, h, g => by
    have e : x = y := by
      rcases List.mem_cons.mp (p.mem_iff.mp (List.mem_cons_self (a := x) (l := xs))) with e | hx
      · exact e
      · rcases List.mem_cons.mp (p.mem_iff.mpr (List.mem_cons_self (a := y) (l := ys))) with e | hy
        · exact e.symm
        · exact an _ _ ((List.pairwise_cons.mp h).1 y hy) ((List.pairwise_cons.mp g).1 x hx)
    subst e
    rw [pw_uniq an p.cons_inv (List.pairwise_cons.mp h).2 (List.pairwise_cons.mp g).2]
/-- sorted(texts) -/
def srt (xs : List Str) : List Str := xs.mergeSort leS
theorem srt_perm (xs : List Str) : (srt xs).Perm xs := List.mergeSort_perm ..
theorem srt_pw (xs : List Str) : (srt xs).Pairwise fun x y => leS x y = true := by
  refine List.pairwise_mergeSort (le := leS) (fun a b c h g => leS_tr h g) (fun a b => ?_) xs
  rcases leS_tot a b with h | h
  · rw [h]
    rfl
  · rw [h, Bool.or_true]
theorem srt_uniq {xs ys : List Str} (p : ys.Perm xs) (h : ys.Pairwise fun x y => leS x y = true) : ys = srt xs :=
  pw_uniq (fun _ _ a b => leS_anti a b) (p.trans (srt_perm xs).symm) h (srt_pw xs)
theorem srt_of {xs ys : List Str} (p : ys.Perm xs) (h : PyProof.Rows.sortedS ys = true) : ys = srt xs := srt_uniq p (sorted_pw h)
theorem srt_mem {x : Str} {xs : List Str} : x ∈ srt xs ↔ x ∈ xs := (srt_perm xs).mem_iff
theorem srt_len (xs : List Str) : (srt xs).length = xs.length := (srt_perm xs).length_eq
theorem srt_nodup {xs : List Str} (h : xs.Nodup) : (srt xs).Nodup := (srt_perm xs).nodup_iff.mpr h
/-- the least one of which p is true -/
def Least (p : Str → Prop) : Option Str → Prop
  | none => ∀ x, ¬ p x
  | some m => p m ∧ ∀ x, p x → leS m x = true
theorem Least.uniq {p : Str → Prop} {a b : Option Str} (h : Least p a) (g : Least p b) : a = b := by
  cases a with
  | none =>
    cases b with
    | none => rfl
    | some y => exact absurd g.1 (h y)
  | some x =>
    cases b with
    | none => exact absurd h.1 (g x)
    | some y => rw [leS_anti (h.2 y g.1) (g.2 x h.1)]
theorem Least.iff {p q : Str → Prop} {a : Option Str} (h : Least p a) (e : ∀ x, p x ↔ q x) : Least q a := by
  cases a with
  | none => exact fun x z => h x ((e x).mpr z)
  | some m => exact ⟨(e m).mp h.1, fun x z => h.2 x ((e x).mpr z)⟩

/-! ### lists of pairs of texts -/
inductive Prs (K : PySem.W.Frag) (H : Hp) : List V → List (Str × Str) → Prop
  | nil : Prs K H [] []
  | cons {t : Addr} {d : Str × Str} {xs : List V} {ds : List (Str × Str)} : SqT K H t [.str d.1, .str d.2] → Prs K H xs ds → Prs K H (.ref t :: xs) (d :: ds)
section
variable {K : PySem.W.Frag} {H H' : Hp} {xs ys : List V} {ds es : List (Str × Str)}
theorem Prs.same (h : Prs K H xs ds) (s : Same H H') : Prs K H' xs ds := by
  induction h with
  | nil => exact .nil
  | cons a _ ih => exact .cons (tup_same s a) ih
theorem Prs.keep {q : Addr} (h : Prs K H xs ds) (k : Kp q H H') (n : NotTp H q) : Prs K H' xs ds := by
  induction h with
  | nil => exact .nil
  | cons a _ ih => exact .cons (k.tup n a) ih
theorem Prs.len (h : Prs K H xs ds) : xs.length = ds.length := by
  induction h with
  | nil => rfl
  | cons _ _ ih => rw [List.length_cons, List.length_cons, ih]
theorem Prs.app (h : Prs K H xs ds) (g : Prs K H ys es) : Prs K H (xs ++ ys) (ds ++ es) := by
  induction h with
  | nil => exact g
  | cons a _ ih => exact .cons a ih
theorem Prs.one {t : Addr} {d : Str × Str} (a : SqT K H t [.str d.1, .str d.2]) : Prs K H [.ref t] [d] := .cons a .nil
theorem Prs.rev (h : Prs K H xs ds) : Prs K H xs.reverse ds.reverse := by
  induction h with
  | nil => exact .nil
  | cons a _ ih =>
    rw [List.reverse_cons, List.reverse_cons]
    exact ih.app (.one a)
theorem Prs.get {i : Nat} {x : V} (h : Prs K H xs ds) (e : xs[i]? = some x) : ∃ t d, x = .ref t ∧ ds[i]? = some d ∧ SqT K H t [.str d.1, .str d.2] := by
  induction h generalizing i with
  | nil => simp at e
  | @cons t d _ _ a _ ih =>
    cases i with
    | zero =>
      cases e
      exact ⟨t, d, rfl, rfl, a⟩
    | succ i => exact ih e
def enc2 (d : Str × Str) : PyData := .tuple [.str d.1, .str d.2]
def Ok2 (d : Str × Str) : Prop := PyData.strOk d.1 = true ∧ PyData.strOk d.2 = true
theorem Prs.dp (h : Prs K H xs ds) : DpAll K H xs (ds.map enc2) := by
  induction h with
  | nil => exact .nil
  | cons a _ ih => exact .cons (.tup a (.cons (.str _) (.cons (.str _) .nil))) ih
theorem lay2 {d : Str × Str} (h : Ok2 d) : PyData.canLay0 (enc2 d) = true ∧ PyData.depth (enc2 d) = 1 := by
  unfold enc2
  refine ⟨?_, ?_⟩
  · simp only [PyData.canLay0, PyData.canLayAll0, h.1, h.2, Bool.and_self]
  · simp only [PyData.depth, PyData.depthAll, Nat.max_self]
theorem layAll2 : ∀ {ds : List (Str × Str)}, (∀ d ∈ ds, Ok2 d) → PyData.canLayAll0 (ds.map enc2) = true ∧ PyData.depthAll (ds.map enc2) ≤ 1
  | [], _ => ⟨by simp only [List.map_nil, PyData.canLayAll0], by simp only [List.map_nil, PyData.depthAll]; decide⟩
  | d :: ds, h => by
    obtain ⟨c, e⟩ := layAll2 fun y hy => h y (List.mem_cons_of_mem _ hy)
    obtain ⟨c1, e1⟩ := lay2 (h d (List.mem_cons_self ..))
    rw [List.map_cons]
    refine ⟨by simp only [PyData.canLayAll0, c1, c, Bool.and_self], ?_⟩
    simp only [PyData.depthAll, e1]
    omega
theorem shaped2 {d : Str × Str} (h : Ok2 d) : SeqAt.shaped (enc2 d) = true := by
  obtain ⟨a, b⟩ := lay2 h
  refine Bool.and_eq_true_iff.mpr ⟨a, decide_eq_true ?_⟩
  rw [b]
  decide
theorem shapedL2 {ds : List (Str × Str)} (h : ∀ d ∈ ds, Ok2 d) : SeqAt.shaped (.list (ds.map enc2)) = true := by
  obtain ⟨a, b⟩ := layAll2 h
  refine Bool.and_eq_true_iff.mpr ⟨?_, decide_eq_true ?_⟩
  · simp only [PyData.canLay0]
    exact a
  · simp only [PyData.depth]
    omega
theorem eqv2 (d e : Str × Str) : PyData.eqv (enc2 d) (enc2 e) = decide (d = e) := by
  obtain ⟨a, b⟩ := d
  obtain ⟨c, f⟩ := e
  have q := eqvAll_strs [a, b] [c, f]
  unfold enc2
  rw [show ∀ xs ys, PyData.eqv (.tuple xs) (.tuple ys) = PyData.eqvAll xs ys from fun xs ys => by simp only [PyData.eqv]]
  refine q.trans (decide_eq_decide.mpr ⟨fun z => ?_, fun z => ?_⟩)
  · injection z with z1 z2
    injection z2 with z2 _
    rw [z1, z2]
  · injection z with z1 z2
    rw [z1, z2]
theorem any2 (d : Str × Str) : ∀ ds : List (Str × Str), ((ds.map enc2).any fun z => PyData.eqv z (enc2 d)) = decide (d ∈ ds)
  | [] => rfl
  | e :: ds => by
    rw [List.map_cons, List.any_cons, any2 d ds, eqv2]
    by_cases h : e = d
    · rw [decide_eq_true h, Bool.true_or, decide_eq_true (by rw [h]; exact List.mem_cons_self ..)]
    · rw [decide_eq_false h, Bool.false_or]
      exact decide_eq_decide.mpr ⟨fun z => List.mem_cons_of_mem _ z, fun z => (List.mem_cons.mp z).resolve_left fun q => h q.symm⟩
theorem eqvAll2 : ∀ ds es : List (Str × Str), PyData.eqvAll (ds.map enc2) (es.map enc2) = decide (ds = es)
  | [], [] => by simp only [List.map_nil, PyData.eqvAll]; rfl
  | [], y :: ys => by simp only [List.map_nil, List.map_cons, PyData.eqvAll]; rfl
  | x :: xs, [] => by simp only [List.map_nil, List.map_cons, PyData.eqvAll]; rfl
  | x :: xs, y :: ys => by
    rw [List.map_cons, List.map_cons, show ∀ a b as bs, PyData.eqvAll (a :: as) (b :: bs) = (PyData.eqv a b && PyData.eqvAll as bs) from fun a b as bs => by simp only [PyData.eqvAll], eqvAll2 xs ys, eqv2]
    by_cases h : x = y
    · rw [decide_eq_true h, Bool.true_and]
      exact decide_eq_decide.mpr ⟨fun e => by rw [h, e], fun e => by injection e⟩
    · rw [decide_eq_false h, Bool.false_and]
      exact (decide_eq_false fun e => h (by injection e)).symm
theorem eqvL2 (ds es : List (Str × Str)) : PyData.eqv (.list (ds.map enc2)) (.list (es.map enc2)) = decide (ds = es) := by
  rw [show ∀ xs ys, PyData.eqv (.list xs) (.list ys) = PyData.eqvAll xs ys from fun xs ys => by simp only [PyData.eqv]]
  exact eqvAll2 ds es
theorem inD2 {t a : Addr} {d : Str × Str} {Q : VK} (ht : SqT K H t [.str d.1, .str d.2]) (ha : SqL K H a xs) (hx : Prs K H xs ds) (k : Ok2 d) (ks : ∀ d ∈ ds, Ok2 d) (q : Q (.bl (decide (d ∈ ds))) H) : rInD K (.ref t) (.ref a) H Q := by
  refine ⟨enc2 d, ds.map enc2, .tup ht (.cons (.str _) (.cons (.str _) .nil)), .lst ha hx.dp, shaped2 k, shapedL2 ks, ?_⟩
  rw [any2]
  exact q
theorem notInD2 {t a : Addr} {d : Str × Str} {Q : VK} (ht : SqT K H t [.str d.1, .str d.2]) (ha : SqL K H a xs) (hx : Prs K H xs ds) (k : Ok2 d) (ks : ∀ d ∈ ds, Ok2 d) (q : Q (.bl (!decide (d ∈ ds))) H) : rNotInD K (.ref t) (.ref a) H Q := by
  refine ⟨enc2 d, ds.map enc2, .tup ht (.cons (.str _) (.cons (.str _) .nil)), .lst ha hx.dp, shaped2 k, shapedL2 ks, ?_⟩
  rw [any2]
  exact q
theorem neD2 {a b : Addr} {Q : VK} (ha : SqL K H a xs) (hx : Prs K H xs ds) (hb : SqL K H b ys) (hy : Prs K H ys es) (k : ∀ d ∈ ds, Ok2 d) (k' : ∀ d ∈ es, Ok2 d) (q : Q (.bl (!decide (ds = es))) H) : rNeD K (.ref a) (.ref b) H Q := by
  refine ⟨_, _, .lst ha hx.dp, .lst hb hy.dp, shapedL2 k, shapedL2 k', ?_⟩
  rw [eqvL2]
  exact q
theorem eqD2 {a b : Addr} {Q : VK} (ha : SqL K H a xs) (hx : Prs K H xs ds) (hb : SqL K H b ys) (hy : Prs K H ys es) (k : ∀ d ∈ ds, Ok2 d) (k' : ∀ d ∈ es, Ok2 d) (q : Q (.bl (decide (ds = es))) H) : rEqD K (.ref a) (.ref b) H Q := by
  refine ⟨_, _, .lst ha hx.dp, .lst hb hy.dp, shapedL2 k, shapedL2 k', ?_⟩
  rw [eqvL2]
  exact q
end
end UP

namespace UP
open PySem PySem.Spec PyProof.Rows L2 UW
/-! ### min(texts, default=None) -/
def rMinS (K : PySem.W.Frag) : List V → List V → Hp → VK → Prop := fun vs zs H Q => ∃ (a : Addr) (xs : List Str), vs = [.ref a] ∧ zs = [.non] ∧ SqL K H a (xs.map V.str) ∧ ∀ o, Least (fun x => x ∈ xs) o → Q (optV o) H
theorem minOf_mem (x : Str) : ∀ xs : List Str, PySem.W.minOf x xs ∈ x :: xs
  | [] => List.mem_cons_self ..
  | y :: ys => by
    show PySem.W.minOf (if PySem.W.DatumOrd.lt y x = true then y else x) ys ∈ x :: y :: ys
    have := minOf_mem (if PySem.W.DatumOrd.lt y x = true then y else x) ys
    rcases List.mem_cons.mp this with e | e
    · rw [e]
      split
      · exact List.mem_cons_of_mem _ (List.mem_cons_self ..)
      · exact List.mem_cons_self ..
    · exact List.mem_cons_of_mem _ (List.mem_cons_of_mem _ e)
theorem minOf_le (x : Str) : ∀ xs : List Str, ∀ z ∈ x :: xs, leS (PySem.W.minOf x xs) z = true
  | [], z, hz => by
    rw [List.mem_singleton.mp hz]
    exact leS_refl _
  | y :: ys, z, hz => by
    show leS (PySem.W.minOf (if PySem.W.DatumOrd.lt y x = true then y else x) ys) z = true
    have ih := minOf_le (if PySem.W.DatumOrd.lt y x = true then y else x) ys
    have h0 := ih _ (List.mem_cons_self ..)
    have hx : leS (if PySem.W.DatumOrd.lt y x = true then y else x) x = true ∧ leS (if PySem.W.DatumOrd.lt y x = true then y else x) y = true := by
      rcases Classical.em (PySem.W.DatumOrd.lt y x = true) with c | c
      · rw [if_pos c]
        exact ⟨leS_of_lt c, leS_refl _⟩
      · rw [if_neg c]
        refine ⟨leS_refl _, ?_⟩
        unfold leS
        rw [show ltS y x = false from Bool.eq_false_iff.mpr c]
        rfl
    rcases List.mem_cons.mp hz with e | hz
    · rw [e]
      exact leS_tr h0 hx.1
    · rcases List.mem_cons.mp hz with e | hz
      · rw [e]
        exact leS_tr h0 hx.2
      · exact ih z (List.mem_cons_of_mem _ hz)
theorem vals_get : ∀ {vs : List V} {us : List Value}, Vals vs us → ∀ {i : Nat} {v : Value}, us[i]? = some v → ∃ x, vs[i]? = some x ∧ RelV x v
  | _, _, .nil, i, v, h => by simp at h
  | _, _, .cons r t, 0, v, h => by
    cases h
    exact ⟨_, rfl, r⟩
  | _, _, .cons r t, i + 1, v, h => vals_get t (i := i) h
theorem cr_minS {X : Cx} (hc : X.calm = true) (hu : X.A.units + 64 < cLine) : CallRK X (.builtin "min") [Str.ofString "default"] (rMinS X.K) := by
  intro pins s σ H vs zs us ws Q I r rz h
  obtain ⟨a, xs, rfl, rfl, hs, q⟩ := h
  obtain ⟨its, rv, hl, _⟩ := I.list hs
  rw [Vals.ref1 r]
  obtain ⟨w1, rfl, rfl⟩ := vals1 rz
  obtain ⟨as, hr⟩ := Dp.readsAll I (xs.map PyData.str) _ _ (dpAll_strs (K := X.K) (H := H) xs) rv
  have hold : PySem.W.HoldAll s.heap its.toArray.toList xs := ⟨as, hr⟩
  refine PySem.W.min_list_datum_default (I.ok.hd hc) hl.isList hold (by show X.A.units + 1 + _ < cLine; have : PySem.W.Datum.depth Str = 0 := rfl; omega) (fun e h' tk hk => ⟨.non, H, I.kept hk, rfl, ?_⟩) fun y ys i v h' tk e hi hv hk => ?_
  · subst e
    exact q none (fun x hx => nomatch hx)
  · subst e
    obtain ⟨bs, rd⟩ := hv
    have hi' : its[i]? = some v := by rw [← List.getElem?_toArray]; exact hi
    obtain ⟨x, hx, rx⟩ := vals_get rv hi'
    obtain ⟨w, hw, rfl⟩ := map_str_get hx
    obtain ⟨t, rfl⟩ := rx
    have ew : w = PySem.W.minOf y ys := by
      change PySem.Reads h' (.str w t) (.str (PySem.W.minOf y ys)) bs at rd
      cases rd
      rfl
    refine ⟨.str w, H, I.kept hk, ⟨t, rfl⟩, ?_⟩
    rw [ew]
    exact q (some _) ⟨minOf_mem y ys, fun z hz => minOf_le y ys z hz⟩
end UP

namespace UP
open PySem L2
theorem take_snoc {α : Type} {ds : List α} {i : Nat} {d : α} (h : ds[i]? = some d) : ds.take (i + 1) = ds.take i ++ [d] := by
  rw [List.take_add_one, h]
  rfl
theorem un65 {k : Nat} {A : Around} (r : Room k A) : A.units + 65 < cLine := by
  have := r.un
  omega
end UP

namespace UP
open PySem PySem.Spec PyProof.Rows L2
theorem binds_all {K : PySem.W.Frag} {fd : FuncData} {ps : List Str} (h : ∃ ds, Vals [] ds ∧ Binds K fd ps ds) : Binds K fd ps [] := by
  obtain ⟨ds, r, b⟩ := h
  cases r
  exact b
section
variable {X : Cx}
/-- y = {k: v for ..}, y a plain local -/
theorem ps_setDc {i : Nat} {y : Str} {py pos spos : Pos} {kx vx tg iter : Expr} {ifs : List Expr} {scope : Scope} {own : List (Str × Nat)} {wi : TI} {g : TG} {tt : TT} {tk tv : TE}
    (hc : X.calm = true) (hN : X.N.Nodup) (hy : X.N[i]? = some y) (hyl : X.env.scope.names.lookup y = some .local) (hsw : swapsWith (.DictComp kx vx [⟨tg, iter, ifs, 0⟩] scope pos) (some (.Name y py)) spos.line X.env = pure true)
    (hi : PI X tg iter wi) (ok : BlkOk X.N X.env.scope scope own)
    (hg : ∀ s H C cl fp, PG (X.blk s H scope (compEnvC scope cl C X.env) fp) tg g) (ht : ∀ s H C cl fp, PTs (X.blk s H scope (compEnvC scope cl C X.env) fp) ifs tt)
    (hk : ∀ s H C cl fp, PE (X.blk s H scope (compEnvC scope cl C X.env) fp) kx tk) (hv : ∀ s H C cl fp, PE (X.blk s H scope (compEnvC scope cl C X.env) fp) vx tv)
    (hs : ∀ x, foldedSetIterable iter X.env x = pure x := by intro _; rfl) :
    PS X (.Assign [.Name y py] (.DictComp kx vx [⟨tg, iter, ifs, 0⟩] scope pos) spos) (tAsg (tDc wi g tt tk tv (own.map (·.2))) (gName i)) := by
  refine ⟨fun pins s σ H D I h => ?_⟩
  rw [exec_Assign_Name_used _ _ _ _ hsw]
  refine wpAny_bind (wpAny_standAt (wpAny_bind (wpAny_bind (m := comprehension _ _ _ _ newDict false (eval iter X.env) (some (assign (.Name y py) X.env))) (thn ?_ fun _ z q => wpAny_pure (wpAny_pure q)))))
  refine dc_core (Qf := fun _ z => SP X pins D .next z) hc hN I hi ok hg ht hk hv hs (Q := fun x H1 => gName i x σ H1 D.nx) h fun L C z m H2 I2 q ns fp => ?_
  show wpAny _ _ (assign (.Name y py) X.env (.ref L)) _ _ _
  refine wpAny_assign_Name (store_ok2 (v := V.ref L) I2 hN hy (.inl hyl) rfl (fun z2 J ⟨a, sb, ha⟩ => ?_) (.inr hyl))
  obtain ⟨f0, f1, f2, f3, f4, f5⟩ := fp
  have ne : C ≠ a := ha.elim (fun e => e ▸ f1) fun e q => f4 y a e q.symm
  exact ⟨m, ns.sameBut sb ne, fun h3 sb3 => ⟨_, H2, J.turned (t' := z2.toks) (fun b o hb e => (sb3.2 b hb).trans e) f0 f1 f3 f4 f5, q⟩⟩
theorem sw_dict {kx vx : Expr} {gs : List Comprehension} {scope : Scope} {pos py : Pos} {y : Str} {l : Nat} {env : Env} (hk : env.scope.kind = .function) (hy : env.scope.names.lookup y = some .local) (hl : (py.line == pos.line) = true)
    (ha : (scope.names.any fun (n, k) => n == y && (k == .local || k == .cell)) = false) : swapsWith (.DictComp kx vx gs scope pos) (some (.Name y py)) l env = pure true := by
  have e1 : env.kindOf y = some .local := hy
  have e2 : env.blockKind = .function := by
    unfold Env.blockKind
    rw [hk]
    rfl
  unfold swapsWith
  simp only [e2, e1, ha, Expr.pos, hl]
  rfl
end
end UP

namespace UP
open PySem L2
theorem pe_fldK {X : Cx} {K : PySem.W.Frag} {e : Expr} {f : Str} {pos : Pos} {ta : TE} (hK : X.K = K) (he : PE X e ta) (hb : attributeBase e f X.env (eval e X.env) = eval e X.env) : PE X (.Attribute e f pos) (tFld K ta f) := by
  subst hK
  exact pe_fld he hb
end UP

namespace UP
open PySem L2
theorem pi_listK {X : Cx} {K : PySem.W.Frag} {tg e : Expr} {te : TE} (hK : X.K = K) (he : PE X e te) : PI X tg e (iList K te) := by
  subst hK
  exact pi_list he
theorem pi_tupK {X : Cx} {K : PySem.W.Frag} {tg e : Expr} {te : TE} (hK : X.K = K) (he : PE X e te) : PI X tg e (iTup K te) := by
  subst hK
  exact pi_tup he
end UP

namespace UP
open PySem L2
/-- a walk by one rule or by another -/
def iOr (a b : TI) : TI := fun σ H R => a σ H R ∨ b σ H R
theorem pi_or {X : Cx} {tg e : Expr} {a b : TI} (h : PI X tg e a) (g : PI X tg e b) : PI X tg e (iOr a b) :=
  ⟨fun pins s σ H R I q => q.elim (h.run pins s σ H R I) (g.run pins s σ H R I)⟩
end UP

namespace UP
open PySem PySem.Spec PyProof.Rows L2 UW
/-! ### set(texts), len of it -/
abbrev freshS (led : Bool) : Obj := { cls := .type "set", dict := none, data := .set #[] 0 (.fresh 0 0 led) }
/-- a key that is one of these texts -/
def keyIn (ds : List Str) : Key → Bool
  | .inl _ => false
  | .inr x => decide (x ∈ ds)
/-- the set of these texts stands at a -/
def SetTx (P : Program) (w : World) (h : Heap) (a : Addr) (xs : List Str) : Prop :=
  ∃ ds : List Str, ds.Nodup ∧ (∀ x, x ∈ ds ↔ x ∈ xs) ∧ ds.length ≤ xs.length ∧ h.SetOf (mixKind P w) a (keyIn ds) ds.length
section
variable {P : Program} {w : World} {A : Around} {E : Value → Shared → Prop} {s : Shared}
theorem SetTx.at {h h' : Heap} {a : Addr} {xs : List Str} (S : SetTx P w h a xs) (k : ∀ o, h.get? a = some o → h'.get? a = some o) : SetTx P w h' a xs := by
  obtain ⟨ds, h1, h2, h3, h4⟩ := S
  exact ⟨ds, h1, h2, h3, setOf_at h4 k⟩
theorem setOf_by {h : Heap} {a : Addr} {S S' : Key → Bool} {n n' : Nat} (g : h.SetOf (mixKind P w) a S n) (e : ∀ k, S k = S' k) (en : n = n') : h.SetOf (mixKind P w) a S' n' := by
  obtain rfl : S = S' := funext e
  rw [← en]
  exact g
/-- one text more -/
theorem SetTx.more {h' : Heap} {a : Addr} {xs ds : List Str} {x : Str} (h1 : ds.Nodup) (h2 : ∀ y, y ∈ ds ↔ y ∈ xs) (h3 : ds.length ≤ xs.length)
    (g : h'.SetOf (mixKind P w) a (fun k => keyIn ds k || decide (k = Sum.inr x)) (if keyIn ds (Sum.inr x) = true then ds.length else ds.length + 1)) : SetTx P w h' a (xs ++ [x]) := by
  by_cases c : x ∈ ds
  · refine ⟨ds, h1, fun y => ?_, by rw [List.length_append]; exact Nat.le_succ_of_le h3, ?_⟩
    · rw [List.mem_append, ← h2 y, List.mem_singleton]
      exact ⟨.inl, fun z => z.elim id fun e => e ▸ c⟩
    · refine setOf_by g (fun k => ?_) (if_pos (decide_eq_true c))
      by_cases e : k = Sum.inr x
      · rw [e]
        show (decide (x ∈ ds) || _) = decide (x ∈ ds)
        rw [decide_eq_true c, Bool.true_or]
      · rw [decide_eq_false e, Bool.or_false]
  · refine ⟨ds ++ [x], ?_, fun y => ?_, by rw [List.length_append, List.length_append]; exact Nat.succ_le_succ h3, ?_⟩
    · rw [List.nodup_append]
      exact ⟨h1, List.nodup_cons.mpr ⟨by simp, List.nodup_nil⟩, fun p hp r hr e => c (by rw [← List.mem_singleton.mp hr, ← e]; exact hp)⟩
    · rw [List.mem_append, List.mem_append, h2 y]
    · refine setOf_by g (fun k => ?_) ?_
      · by_cases e : k = Sum.inr x
        · rw [e, decide_eq_true (rfl : (Sum.inr x : Key) = Sum.inr x), Bool.or_true]
          exact (decide_eq_true (List.mem_append_right _ (List.mem_singleton.mpr rfl))).symm
        · rw [decide_eq_false e, Bool.or_false]
          cases k with
          | inl i => rfl
          | inr y =>
            refine decide_eq_decide.mpr ⟨List.mem_append_left _, fun z => (List.mem_append.mp z).elim id fun z => absurd (congrArg Sum.inr (List.mem_singleton.mp z)) e⟩
      · rw [show keyIn ds (Sum.inr x) = false from decide_eq_false c, List.length_append]
        rfl
theorem loop_tx {I S : Addr} {fp wr : List Addr} {G : Array GenState → Array GenState → Prop} {n : Nat} {Pv : Nat → Value → Prop} {St : Nat → Shared → Prop} {R : Result → Shared → Prop}
    (W : WalksS P w A.in1 I fp wr G n Pv St) (off : S ∉ fp) (xs : List Str) (hn : n = xs.length) (room : xs.length + 1 < scanBound) (hv : ∀ i v, Pv i v → ∃ x t, xs[i]? = some x ∧ v = .str x t) :
    ∀ (left i : Nat) (s : Shared), n - i = left → i ≤ n → St i s → SetTx P w s.heap S (xs.take i) →
      (∀ s', Moved (S :: wr) G s s' → SetTx P w s'.heap S xs → R (.ok (.ret .none)) s') →
      codeAny (model P w) A (.builtin "set.update.loop" ⟨[.ref S, .ref I], []⟩) R s := by
  have offw : S ∉ wr := fun z => off (W.sub _ z)
  have wide : ∀ c ∈ wr, c ∈ S :: wr := fun c hc => List.mem_cons_of_mem _ hc
  intro left
  induction left with
  | zero =>
    intro i s hk hi hst hT hR
    obtain rfl : i = n := by omega
    rw [List.take_of_length_le (by omega)] at hT
    refine codeAny_builtin PyProof.Rows.F.entry_set_update_loop ?_
    rw [Around.under_plainId PyProof.Rows.F.plain_set_update_loop _]
    refine wpAny_bind (m := pyNext (.ref I)) (W.done s _ _ hst fun s' hm => ?_)
    exact wpAny_pure (hR s' (hm.mono wide) (hT.at fun o e => hm.heap S o offw e))
  | succ left ih =>
    intro i s hk hi hst hT hR
    have lt : i < n := by omega
    refine codeAny_builtin PyProof.Rows.F.entry_set_update_loop ?_
    rw [Around.under_plainId PyProof.Rows.F.plain_set_update_loop _]
    refine wpAny_bind (m := pyNext (.ref I)) (W.item i s _ _ lt hst fun v s' hP hst' hm => ?_)
    obtain ⟨x, t, hx, rfl⟩ := hv i v hP
    obtain ⟨ds, d1, d2, d3, d4⟩ := hT.at (h' := s'.heap) fun o e => hm.heap S o offw e
    refine wpAny_bind (m := holding [Value.str x t] (setAdd S (.str x t))) (wpAny_holding ?_)
    unfold setAdd
    refine wpAny_holding (wpAny_bind ((mixKind P w).pyHash (k := .inr x) (mixKind_str P w x t) ?_))
    have few : ds.length + 1 < scanBound := by
      rw [List.length_take] at d3
      omega
    refine wpAny_setAddHashed_of (knd := mixKind P w) (s := { s' with toks := s'.toks + 1 }) (mixKind_str P w x t) rfl d4 few fun h' sb hS2 => ?_
    have hT2 : SetTx P w h' S (xs.take (i + 1)) := by
      rw [List.take_add_one, hx]
      exact SetTx.more d1 d2 d3 hS2
    refine wpAny_pure ⟨plainId_quiet PyProof.Rows.F.plain_set_update_loop _, ih (i + 1) _ (by omega) lt (W.frame _ s' _ _ hst' (Nat.le_succ _) fun c hc o e => ?_) hT2 fun s'' hm'' hT'' => ?_⟩
    · rw [sb.2 c fun z : c = S => off (z ▸ hc)]
      exact e
    · refine hR s'' (Moved.trans W.gtrans ((hm.mono wide).then_heap (Nat.le_succ _) fun c o hc e => ?_) hm'') hT''
      rw [sb.2 c fun z : c = S => hc (by rw [z]; exact List.mem_cons_self)]
      exact e
end
end UP

namespace UP
open PySem PySem.Spec PyProof.Rows L2 UW
section
variable {P : Program} {w : World} {A : Around} {E : Value → Shared → Prop} {s : Shared}
set_option maxHeartbeats 3200000 in
/-- set(xs), xs a list of texts -/
theorem call_set_tx {l : Addr} {its : Array Value} (xs : List Str) {Q : Value → Shared → Prop} (hh : A.handled = none) (hl : s.heap.IsList l its) (hv : ∀ (i : Nat) (v : Value), its[i]? = some v → ∃ x t, xs[i]? = some x ∧ v = Value.str x t) (hn : its.size = xs.length) (room : xs.length + 1 < scanBound)
    (h : ∀ (h' : Heap) (tk : Nat), SetTx P w h' s.heap.objs.size xs → (∀ b o, s.heap.get? b = some o → h'.get? b = some o) → Q (.ref s.heap.objs.size) { s with heap := h', toks := tk }) :
    wpAny (model P w) A (call (.type "set") [.ref l]) Q E s := by
  obtain ⟨c0, c1, mro⟩ := PySem.F.called_set.mro
  have made := PySem.F.called_set.made
  have sub0 := PySem.F.called_set.sub
  refine wpAny_call (codeAny_of_tree ?_)
  show wpAny _ _ (callAny (.type "set") _) _ _ _
  refine wpAny_pure ⟨Code.quiet_builtin _ (by decide +kernel), codeAny_builtin PySem.F.entry_type_call ?_⟩
  rw [Around.under_plain (weight_type_call_type "set" [.ref l] []) rfl]
  have n1 := PySem.F.called_set.notType
  have n2 := PySem.F.called_set.canCreate
  have n3 := PySem.F.typeCall_set_1 (.ref l)
  repeat (any_goals first | assumption | wp_step)
  refine codeAny_mono (code_set_new_1 (.ref l) (E := E) (Q₁ := fun ob z => ∃ led, ob = .ref s.heap.objs.size ∧ z = { s with heap := s.heap.push (freshS led) }) fun led => ⟨led, rfl, rfl⟩) fun r z hr => ?_
  cases r with
  | error e => exact hr
  | ok fl =>
    cases fl with
    | ret ob =>
      obtain ⟨led, rfl, rfl⟩ := hr
      have here : (s.heap.push (freshS led)).get? s.heap.objs.size = some (freshS led) := Heap.get?_push_size _ rfl
      have ty : Shared.TypeIs { s with heap := s.heap.push (freshS led) } (.ref s.heap.objs.size) "set" := ⟨_, here, rfl⟩
      have i1 := PySem.F.called_set.init.lookup
      have i2 := PySem.F.called_set.init.bind (.ref s.heap.objs.size)
      repeat (any_goals first | assumption | wp_step)
      refine codeAny_mono (codeAny_call_builtin (R := wants (fun r z => r = .none ∧ ∃ h' tk, z = { s with heap := h', toks := tk } ∧ SetTx P w h' s.heap.objs.size xs ∧ (∀ b o, s.heap.get? b = some o → h'.get? b = some o)) E)
        PySem.F.called_set.init.plain PySem.F.entry_set_init (check_set_init_1 ty ?_)) fun r2 z2 hr2 => ?_
      · obtain ⟨ol, hol, hcl, nl, hdl⟩ := hl
        obtain ⟨ocls, odict, odata, oslots⟩ := ol
        simp only at hcl hdl
        subst hcl hdl
        have hol2 : (s.heap.push (freshS led)).get? l = some { cls := .type "list", dict := odict, data := .seq its nl, slots := oslots } := Heap.get?_push_of_some _ hol
        have u1 := PySem.F.sub_list_set
        have u2 := PySem.F.sub_list_frozenset
        have u3 : (Value.type "list" == Value.type "dict") = false := by decide
        have lst : (s.heap.push (freshS led)).IsList l its := ⟨_, hol2, rfl, nl, rfl⟩
        unfold Builtin.«set.__init__» noKeywords Builtin.Frozenset.updateFrom
        generalize hPI : pyIter = PI
        wp_walk
        subst hPI
        refine wpAny_pyIter_list lst (wpAny_bind (wpAny_runValue ?_))
        have ltl : l < s.heap.objs.size := Heap.lt_size hol
        have zsz : (s.heap.push (freshS led)).objs.size = s.heap.objs.size + 1 := Heap.size_push ..
        have neI : l ≠ (s.heap.push (freshS led)).objs.size := by
          rw [zsz]
          exact Nat.ne_of_lt (Nat.lt_succ_of_lt ltl)
        have off : s.heap.objs.size ∉ [(s.heap.push (freshS led)).objs.size, l] := by
          rw [zsz, List.mem_cons, List.mem_singleton]
          exact fun z => z.elim (Nat.ne_of_lt (Nat.lt_succ_self _)) (Nat.ne_of_gt ltl)
        have hh3 : A.in1.in1.in1.handled = none := hh
        refine loop_tx ((Walks.list hh3 _ l neI its).toS) off xs hn room hv (its.size - 0) 0 _ (by omega) (Nat.zero_le _) ⟨⟨_, Heap.get?_push_size _ rfl, rfl, rfl⟩, lst.push _⟩ ?_ ?_
        · refine ⟨[], List.nodup_nil, fun x => ⟨(fun z => nomatch z), (fun z => nomatch z)⟩, Nat.le_refl _, ?_⟩
          have here2 : ((s.heap.push (freshS led)).push { cls := .type "list_iterator", data := .fields #[.ref l, .int 0 0] }).get? s.heap.objs.size = some (freshS led) := Heap.get?_push_of_some _ here
          exact ⟨freshS led, #[], 0, _, here2, ⟨rfl, rfl, rfl⟩, rfl, fun e he => by simp at he, fun k => by cases k <;> simp [keyIn], by decide, by rfl, rfl⟩
        · rintro ⟨h', g2, d2, tk2, os2⟩ hm hT
          obtain rfl : g2 = s.gens := hm.gens
          obtain rfl : d2 = s.drawn := hm.drawn
          obtain rfl : os2 = s.os := hm.os
          refine wpAny_pure (wpAny_pure ⟨rfl, h', tk2, rfl, hT, fun b o e => ?_⟩)
          have ltb : b < s.heap.objs.size := Heap.lt_size e
          refine hm.heap b o ?_ (Heap.get?_push_of_some _ (Heap.get?_push_of_some _ e))
          rw [zsz, List.mem_cons, List.mem_cons, List.mem_nil_iff, or_false]
          exact fun z => z.elim (Nat.ne_of_lt ltb) (Nat.ne_of_lt (Nat.lt_succ_of_lt ltb))
      · cases r2 with
        | error e => exact hr2
        | ok fl2 =>
          cases fl2 with
          | ret r =>
            obtain ⟨rfl, h', tk, rfl, hT, hk⟩ := hr2
            repeat (any_goals first | assumption | wp_step)
            exact h _ _ hT hk
          | _ => exact hr2.elim
    | _ => exact hr.elim
end
section
variable {X : Cx}
/-- set(xs) of a list of texts: as many as are unlike -/
def rSetTx (K : PySem.W.Frag) (P : Program) (w : World) : List V → Hp → VK → Prop := fun vs H Q => ∃ (l : Addr) (xs : List Str), vs = [.ref l] ∧ SqL K H l (xs.map V.str) ∧ xs.length < 1000 ∧
  ∀ p ds, H p = none → ds.Nodup → (∀ x, x ∈ ds ↔ x ∈ xs) → Q (.ref p) (upd H p (SetK P w p (keyIn ds) ds.length))
theorem cr_setTx (hc : X.calm = true) : CallR X (.type "set") (rSetTx X.K X.prog X.w) := by
  intro pins s σ H vs us Q I r h
  obtain ⟨l, xs, rfl, hs, few, q⟩ := h
  obtain ⟨its, rv, hl, _⟩ := I.list hs
  rw [Vals.ref1 r]
  have hlen : its.length = xs.length := by rw [← rv.length, List.length_map]
  refine call_set_tx xs (I.ok.hd hc) hl.isList (fun i v hi => ?_) (by rw [List.size_toArray]; exact hlen) (by unfold scanBound; omega) fun h' tk hT hk => ?_
  · obtain ⟨x, hx, rx⟩ := vals_get rv (show its[i]? = some v by rw [← List.getElem?_toArray]; exact hi)
    obtain ⟨y, hy, rfl⟩ := map_str_get hx
    obtain ⟨t, rfl⟩ := rx
    exact ⟨y, t, hy, rfl⟩
  · obtain ⟨ds, h1, h2, _, h4⟩ := hT
    exact ⟨.ref _, upd H s.heap.objs.size (SetK X.prog X.w s.heap.objs.size (keyIn ds) ds.length), I.laid hk (Nat.le_refl _) (setK_new h4), rfl, q _ ds (I.hok.fresh (Nat.le_refl _)) h1 h2⟩
/-- len of such a set -/
def rLenTx (P : Program) (w : World) : List V → Hp → VK → Prop := fun vs H Q => ∃ (a : Addr) (S : Key → Bool) (n : Nat), vs = [.ref a] ∧ H a = some (SetK P w a S n) ∧ n < 1000 ∧ Q (.int n) H
theorem cr_lenTx : CallR X (.builtin "len") (rLenTx X.prog X.w) := by
  intro pins s σ H vs us Q I r h
  obtain ⟨a, S, n, rfl, ha, few, q⟩ := h
  rw [Vals.ref1 r]
  obtain ⟨o, es, ep, t, ho, hex, hd, _, _, _, hf, hn⟩ := setK_get I ha
  exact call_len_set ho hex hd hf (by rw [hn]; omega) ⟨.int n, H, I.tok _, ⟨_, by rw [hn]⟩, q⟩
end
end UP
/-! own layer: set(t), t a tuple of texts -/
namespace UP
open PySem PySem.Spec PyProof.Rows L2 UW
section
variable {P : Program} {w : World} {A : Around} {E : Value → Shared → Prop} {s : Shared}
set_option maxHeartbeats 3200000 in
/-- set(xs), xs a tuple of texts -/
theorem call_set_tt {l : Addr} {its : Array Value} (xs : List Str) {Q : Value → Shared → Prop} (hh : A.handled = none) (hl : s.heap.IsTuple l its) (hv : ∀ (i : Nat) (v : Value), its[i]? = some v → ∃ x t, xs[i]? = some x ∧ v = Value.str x t) (hn : its.size = xs.length) (room : xs.length + 1 < scanBound)
    (h : ∀ (h' : Heap) (tk : Nat), SetTx P w h' s.heap.objs.size xs → (∀ b o, s.heap.get? b = some o → h'.get? b = some o) → Q (.ref s.heap.objs.size) { s with heap := h', toks := tk }) :
    wpAny (model P w) A (call (.type "set") [.ref l]) Q E s := by
  obtain ⟨c0, c1, mro⟩ := PySem.F.called_set.mro
  have made := PySem.F.called_set.made
  have sub0 := PySem.F.called_set.sub
  refine wpAny_call (codeAny_of_tree ?_)
  show wpAny _ _ (callAny (.type "set") _) _ _ _
  refine wpAny_pure ⟨Code.quiet_builtin _ (by decide +kernel), codeAny_builtin PySem.F.entry_type_call ?_⟩
  rw [Around.under_plain (weight_type_call_type "set" [.ref l] []) rfl]
  have n1 := PySem.F.called_set.notType
  have n2 := PySem.F.called_set.canCreate
  have n3 := PySem.F.typeCall_set_1 (.ref l)
  repeat (any_goals first | assumption | wp_step)
  refine codeAny_mono (code_set_new_1 (.ref l) (E := E) (Q₁ := fun ob z => ∃ led, ob = .ref s.heap.objs.size ∧ z = { s with heap := s.heap.push (freshS led) }) fun led => ⟨led, rfl, rfl⟩) fun r z hr => ?_
  cases r with
  | error e => exact hr
  | ok fl =>
    cases fl with
    | ret ob =>
      obtain ⟨led, rfl, rfl⟩ := hr
      have here : (s.heap.push (freshS led)).get? s.heap.objs.size = some (freshS led) := Heap.get?_push_size _ rfl
      have ty : Shared.TypeIs { s with heap := s.heap.push (freshS led) } (.ref s.heap.objs.size) "set" := ⟨_, here, rfl⟩
      have i1 := PySem.F.called_set.init.lookup
      have i2 := PySem.F.called_set.init.bind (.ref s.heap.objs.size)
      repeat (any_goals first | assumption | wp_step)
      refine codeAny_mono (codeAny_call_builtin (R := wants (fun r z => r = .none ∧ ∃ h' tk, z = { s with heap := h', toks := tk } ∧ SetTx P w h' s.heap.objs.size xs ∧ (∀ b o, s.heap.get? b = some o → h'.get? b = some o)) E)
        PySem.F.called_set.init.plain PySem.F.entry_set_init (check_set_init_1 ty ?_)) fun r2 z2 hr2 => ?_
      · obtain ⟨ol, hol, hcl, nl, hdl⟩ := hl
        obtain ⟨ocls, odict, odata, oslots⟩ := ol
        simp only at hcl hdl
        subst hcl hdl
        have hol2 : (s.heap.push (freshS led)).get? l = some { cls := .type "tuple", dict := odict, data := .seq its nl, slots := oslots } := Heap.get?_push_of_some _ hol
        have u1 := PySem.F.sub_tuple_set
        have u2 := PySem.F.sub_tuple_frozenset
        have u3 : (Value.type "tuple" == Value.type "dict") = false := by decide
        have lst : (s.heap.push (freshS led)).IsTuple l its := ⟨_, hol2, rfl, nl, rfl⟩
        unfold Builtin.«set.__init__» noKeywords Builtin.Frozenset.updateFrom
        generalize hPI : pyIter = PI
        wp_walk
        subst hPI
        refine wpAny_pyIter_tuple lst (wpAny_bind (wpAny_runValue ?_))
        have ltl : l < s.heap.objs.size := Heap.lt_size hol
        have zsz : (s.heap.push (freshS led)).objs.size = s.heap.objs.size + 1 := Heap.size_push ..
        have neI : l ≠ (s.heap.push (freshS led)).objs.size := by
          rw [zsz]
          exact Nat.ne_of_lt (Nat.lt_succ_of_lt ltl)
        have off : s.heap.objs.size ∉ [(s.heap.push (freshS led)).objs.size, l] := by
          rw [zsz, List.mem_cons, List.mem_singleton]
          exact fun z => z.elim (Nat.ne_of_lt (Nat.lt_succ_self _)) (Nat.ne_of_gt ltl)
        have hh3 : A.in1.in1.in1.handled = none := hh
        refine loop_tx ((Walks.tuple hh3 _ l neI its).toS) off xs hn room hv (its.size - 0) 0 _ (by omega) (Nat.zero_le _) ⟨⟨_, Heap.get?_push_size _ rfl, rfl, rfl⟩, lst.push _⟩ ?_ ?_
        · refine ⟨[], List.nodup_nil, fun x => ⟨(fun z => nomatch z), (fun z => nomatch z)⟩, Nat.le_refl _, ?_⟩
          have here2 : ((s.heap.push (freshS led)).push { cls := .type "tuple_iterator", data := .fields #[.ref l, .int 0 0] }).get? s.heap.objs.size = some (freshS led) := Heap.get?_push_of_some _ here
          exact ⟨freshS led, #[], 0, _, here2, ⟨rfl, rfl, rfl⟩, rfl, fun e he => by simp at he, fun k => by cases k <;> simp [keyIn], by decide, by rfl, rfl⟩
        · rintro ⟨h', g2, d2, tk2, os2⟩ hm hT
          obtain rfl : g2 = s.gens := hm.gens
          obtain rfl : d2 = s.drawn := hm.drawn
          obtain rfl : os2 = s.os := hm.os
          refine wpAny_pure (wpAny_pure ⟨rfl, h', tk2, rfl, hT, fun b o e => ?_⟩)
          have ltb : b < s.heap.objs.size := Heap.lt_size e
          refine hm.heap b o ?_ (Heap.get?_push_of_some _ (Heap.get?_push_of_some _ e))
          rw [zsz, List.mem_cons, List.mem_cons, List.mem_nil_iff, or_false]
          exact fun z => z.elim (Nat.ne_of_lt ltb) (Nat.ne_of_lt (Nat.lt_succ_of_lt ltb))
      · cases r2 with
        | error e => exact hr2
        | ok fl2 =>
          cases fl2 with
          | ret r =>
            obtain ⟨rfl, h', tk, rfl, hT, hk⟩ := hr2
            repeat (any_goals first | assumption | wp_step)
            exact h _ _ hT hk
          | _ => exact hr2.elim
    | _ => exact hr.elim
end
section
variable {X : Cx}
/-- set(xs) of a tuple of texts: as many as are unlike -/
def rSetTT (K : PySem.W.Frag) (P : Program) (w : World) : List V → Hp → VK → Prop := fun vs H Q => ∃ (l : Addr) (xs : List Str), vs = [.ref l] ∧ SqT K H l (xs.map V.str) ∧ xs.length < 1000 ∧
  ∀ p ds, H p = none → ds.Nodup → (∀ x, x ∈ ds ↔ x ∈ xs) → Q (.ref p) (upd H p (SetK P w p (keyIn ds) ds.length))
theorem cr_setTT (hc : X.calm = true) : CallR X (.type "set") (rSetTT X.K X.prog X.w) := by
  intro pins s σ H vs us Q I r h
  obtain ⟨l, xs, rfl, hs, few, q⟩ := h
  obtain ⟨its, rv, hl, _⟩ := I.tuple hs
  rw [Vals.ref1 r]
  have hlen : its.length = xs.length := by rw [← rv.length, List.length_map]
  refine call_set_tt xs (I.ok.hd hc) hl (fun i v hi => ?_) (by rw [List.size_toArray]; exact hlen) (by unfold scanBound; omega) fun h' tk hT hk => ?_
  · obtain ⟨x, hx, rx⟩ := vals_get rv (show its[i]? = some v by rw [← List.getElem?_toArray]; exact hi)
    obtain ⟨y, hy, rfl⟩ := map_str_get hx
    obtain ⟨t, rfl⟩ := rx
    exact ⟨y, t, hy, rfl⟩
  · obtain ⟨ds, h1, h2, _, h4⟩ := hT
    exact ⟨.ref _, upd H s.heap.objs.size (SetK X.prog X.w s.heap.objs.size (keyIn ds) ds.length), I.laid hk (Nat.le_refl _) (setK_new h4), rfl, q _ ds (I.hok.fresh (Nat.le_refl _)) h1 h2⟩
end
end UP
/-! own layer: dicts by names, what holds of each entry; dict comprehensions walked; the pure side of shelves -/
namespace UT
open PySem L2 UW UP
/-- a dict by names: R of each name's value -/
inductive Tab {α : Type} (R : V → Str → α → Prop) : List (Key × V) → List (Str × α) → Prop
  | nil : Tab R [] []
  | cons {kvs : List (Key × V)} {us : List (Str × α)} {w : Str} {v : V} {u : α} (e : R v w u) (h : Tab R kvs us) : Tab R ((Sum.inr w, v) :: kvs) ((w, u) :: us)
section
variable {α : Type} {R R' : V → Str → α → Prop} {kvs kvs' : List (Key × V)} {us us' : List (Str × α)}
theorem Tab.imp (h : Tab R kvs us) (f : ∀ v w u, R v w u → R' v w u) : Tab R' kvs us := by
  induction h with
  | nil => exact .nil
  | cons e _ ih => exact .cons (f _ _ _ e) ih
theorem Tab.app (h : Tab R kvs us) (g : Tab R kvs' us') : Tab R (kvs ++ kvs') (us ++ us') := by
  induction h with
  | nil => exact g
  | cons e _ ih => exact .cons e ih
theorem Tab.len (h : Tab R kvs us) : kvs.length = us.length := by
  induction h with
  | nil => rfl
  | cons _ _ ih => rw [List.length_cons, List.length_cons, ih]
theorem Tab.keys (h : Tab R kvs us) : kvs.map (·.1) = (us.map (·.1)).map Sum.inr := by
  induction h with
  | nil => rfl
  | cons _ _ ih => rw [List.map_cons, List.map_cons, List.map_cons, ih]
theorem Tab.free (h : Tab R kvs us) {w : Str} (hw : w ∉ us.map (·.1)) : valV kvs (Sum.inr w : Key) = none := by
  induction h with
  | nil => rfl
  | cons _ _ ih =>
    rw [valV_neg (fun z => hw (by rw [List.map_cons]; cases z; exact List.mem_cons_self ..))]
    exact ih fun z => hw (List.mem_cons_of_mem _ z)
theorem Tab.get (h : Tab R kvs us) (hn : (us.map (·.1)).Nodup) : ∀ p ∈ us, ∃ v, valV kvs (Sum.inr p.1 : Key) = some v ∧ R v p.1 p.2 := by
  induction h with
  | nil => intro p hp; cases hp
  | @cons _ us w v u e _ ih =>
    intro p hp
    obtain ⟨h1, h2⟩ := List.nodup_cons.mp hn
    rcases List.mem_cons.mp hp with rfl | hp'
    · exact ⟨v, valV_pos rfl, e⟩
    · obtain ⟨v', hv, r⟩ := ih h2 p hp'
      refine ⟨v', ?_, r⟩
      rw [valV_neg (fun z => h1 (List.mem_map.mpr ⟨p, hp', (Sum.inr.inj z).symm⟩))]
      exact hv
theorem Tab.at (h : Tab R kvs us) {i : Nat} {k : Key} {v : V} (e : kvs[i]? = some (k, v)) : ∃ w u, k = Sum.inr w ∧ us[i]? = some (w, u) ∧ R v w u := by
  induction h generalizing i with
  | nil => simp at e
  | @cons _ _ w v' u r _ ih =>
    cases i with
    | zero =>
      cases e
      exact ⟨w, u, rfl, rfl, r⟩
    | succ i => exact ih e
/-- one name's facts made others -/
def setU (us : List (Str × α)) (w : Str) (u : α) : List (Str × α) := us.map fun p => if p.1 = w then (w, u) else p
theorem setU_names (us : List (Str × α)) (w : Str) (u : α) : (setU us w u).map (·.1) = us.map (·.1) := by
  unfold setU
  rw [List.map_map]
  refine List.map_congr_left fun p _ => ?_
  show (if p.1 = w then (w, u) else p).1 = p.1
  by_cases c : p.1 = w
  · rw [if_pos c, c]
  · rw [if_neg c]
theorem Tab.put (h : Tab R kvs us) {w : Str} {v : V} {u : α} (hw : w ∈ us.map (·.1)) (r : R v w u) : Tab R (putK kvs (Sum.inr w) v) (setU us w u) := by
  have a : (kvs.any fun kv => decide (kv.1 = (Sum.inr w : Key))) = true := by
    have : (Sum.inr w : Key) ∈ kvs.map (·.1) := by
      rw [h.keys]
      exact List.mem_map.mpr ⟨w, hw, rfl⟩
    obtain ⟨p, hp, e⟩ := List.mem_map.mp this
    exact List.any_eq_true.mpr ⟨p, hp, decide_eq_true e⟩
  unfold putK
  rw [if_pos a]
  clear a hw
  unfold setU
  induction h with
  | nil => exact .nil
  | @cons _ _ w' v' u' e _ ih =>
    rw [List.map_cons, List.map_cons]
    by_cases c : w' = w
    · subst c
      rw [if_pos rfl, if_pos rfl]
      exact .cons r ih
    · rw [if_neg (fun z => c (by cases z; rfl)), if_neg c]
      exact .cons e ih
end
/-! ### dict comprehensions, walked -/
theorem dc_it {J : It} {n : Nat} {G : Hp → Prop} {Y : Nat → Hp → V → Hp → Prop} (w : Walk J n G Y) {g : TG} {tt : TT} {tk tv : TE} {vs : List Nat} {σ : L2.St} {H1 : Hp} {D : Addr} {Qd : Hp → Prop} (Pv : Nat → Hp → Prop) (h0 : Pv 0 (upd H1 D (.dK []))) (hG : ∀ i H, i ≤ n → Pv i H → G H)
    (hs : ∀ i x H H', i < n → Pv i H → Y i H x H' → g x (wipe σ vs) H' fun σ2 H2 => wipe σ2 vs = wipe σ vs ∧ tt σ2 H2 fun b H3 =>
      if b = true then tk σ2 H3 fun y H4 => tv σ2 H4 fun z H5 => ∃ kvs k, y = kV k ∧ H5 D = some (.dK kvs) ∧ kvs.length < sizeLine ∧ Pv (i + 1) (upd H5 D (.dK (putK kvs k z))) else Pv (i + 1) H3)
    (hd : ∀ H, Pv n H → Qd H) :
    ∃ W : Nat → Nat → Hp → Prop, (∃ m, W 0 m (upd H1 D (.dK []))) ∧ ∀ i m H, W i m H →
      (J.stop i H ∧ Qd H) ∨ (J.go i H ∧ ∃ Nx : Hp → Prop, (∀ H', Nx H' → ∃ m', m' < m ∧ W (i + 1) m' H') ∧ ∀ x H', J.yld i H x H' → g x (wipe σ vs) H' fun σ2 H2 => wipe σ2 vs = wipe σ vs ∧ tt σ2 H2 fun b H3 =>
        if b = true then tk σ2 H3 fun y H4 => tv σ2 H4 fun z H5 => ∃ kvs k, y = kV k ∧ H5 D = some (.dK kvs) ∧ kvs.length < sizeLine ∧ Nx (upd H5 D (.dK (putK kvs k z))) else Nx H3) := by
  refine ⟨fun i m H => i ≤ n ∧ m = n - i ∧ Pv i H, ⟨n, Nat.zero_le _, rfl, h0⟩, fun i m H ⟨hi, e, p⟩ => ?_⟩
  subst e
  have gH := hG i H hi p
  rcases Nat.lt_or_eq_of_le hi with lt | e
  · exact .inr ⟨w.goes i H lt gH, Pv (i + 1), fun H' p' => ⟨n - (i + 1), by omega, lt, rfl, p'⟩, fun x H' y => hs i x H H' lt p (w.yields i H x H' lt gH y)⟩
  · subst e
    exact .inl ⟨w.stops H gH, hd H p⟩
theorem at5 {α : Type} {a b c d e f : α} {r : List α} : atI (a :: b :: c :: d :: e :: f :: r) 5 = some f := atI_nat (j := 5) rfl
theorem at6 {α : Type} {a b c d e f g : α} {r : List α} : atI (a :: b :: c :: d :: e :: f :: g :: r) 6 = some g := atI_nat (j := 6) rfl
/-! ### the pure side -/
/-- the facts of a name -/
def fu (us : List (Str × UF)) (w : Str) : Option UF := (us.find? fun p => decide (p.1 = w)).map (·.2)
theorem fu_some {us : List (Str × UF)} (hn : (us.map (·.1)).Nodup) {p : Str × UF} (hp : p ∈ us) : fu us p.1 = some p.2 := by
  unfold fu
  induction us with
  | nil => cases hp
  | cons q us ih =>
    obtain ⟨h1, h2⟩ := List.nodup_cons.mp hn
    rcases List.mem_cons.mp hp with rfl | hp
    · rw [List.find?_cons_of_pos (by exact decide_eq_true rfl)]
      rfl
    · rw [List.find?_cons_of_neg (by exact fun z => h1 (List.mem_map.mpr ⟨p, hp, (of_decide_eq_true z).symm⟩))]
      exact ih h2 hp
theorem fu_of {us : List (Str × UF)} {w : Str} (hw : w ∈ us.map (·.1)) (hn : (us.map (·.1)).Nodup) : ∃ u, fu us w = some u ∧ (w, u) ∈ us := by
  obtain ⟨p, hp, rfl⟩ := List.mem_map.mp hw
  exact ⟨p.2, fu_some hn hp, hp⟩
/-- o stands in the needs or the after of w, or opens it -/
def waitsB (us : List (Str × UF)) (w o : Str) : Bool := match fu us w, fu us o with
  | some u, some v => decide (o ∈ u.needs) || (decide (o ∈ u.after) || decide (v.opens = some w))
  | _, _ => false
/-- for whom w waits, rising -/
def wt (us : List (Str × UF)) (w : Str) : List Str := (srt (us.map (·.1))).filter (waitsB us w)
theorem srt_filter (p : Str → Bool) (l : List Str) : srt (l.filter p) = (srt l).filter p :=
  (srt_uniq ((srt_perm l).filter p) ((srt_pw l).filter p)).symm
theorem wt_mem {us : List (Str × UF)} {w o : Str} : o ∈ wt us w ↔ o ∈ us.map (·.1) ∧ waitsB us w o = true := by
  unfold wt
  rw [List.mem_filter, srt_mem]
theorem waits_self {us : List (Str × UF)} (hn : (us.map (·.1)).Nodup) (h : ∀ p ∈ us, p.1 ∉ p.2.needs ∧ p.1 ∉ p.2.after ∧ p.2.opens ≠ some p.1) (w : Str) : w ∉ wt us w := fun hw => by
  obtain ⟨h1, h2⟩ := wt_mem.mp hw
  obtain ⟨u, hu, hm⟩ := fu_of h1 hn
  obtain ⟨a, b, c⟩ := h _ hm
  unfold waitsB at h2
  rw [hu] at h2
  simp only [decide_eq_false a, decide_eq_false b, decide_eq_false c, Bool.or_self] at h2
  cases h2
/-! ### rings and orders, for any relation -/
section
variable (W : Str → List Str)
/-- some of the names wait for one another without end -/
def Knotted (ns : List Str) : Prop := ∃ S : List Str, S ≠ [] ∧ (∀ n ∈ S, n ∈ ns) ∧ ∀ n ∈ S, ∃ o ∈ W n, o ∈ S
structure FreeO (ns order : List Str) : Prop where
  nd : order.Nodup
  sub : ∀ n ∈ order, n ∈ ns
  pre : ∀ i n, order[i]? = some n → ∀ o ∈ W n, o ∈ ns → o ∈ order.take i
structure IsRing (ns r : List Str) : Prop where
  two : 2 ≤ r.length
  nd : r.Nodup
  sub : ∀ n ∈ r, n ∈ ns
  step : ∀ i n, r[i]? = some n → ∃ o, r[(i + 1) % r.length]? = some o ∧ o ∈ W n
variable {W}
theorem FreeO.nil (ns : List Str) : FreeO W ns [] := ⟨List.nodup_nil, (fun n h => nomatch h), fun i n h => by simp at h⟩
theorem FreeO.snoc {ns order : List Str} (f : FreeO W ns order) {n : Str} (hn : n ∈ ns) (h : n ∉ order) (hw : ∀ o ∈ W n, o ∈ ns → o ∈ order) : FreeO W ns (order ++ [n]) := by
  refine ⟨?_, fun x hx => ?_, fun i x hx o ho hs => ?_⟩
  · rw [List.nodup_append]
    exact ⟨f.nd, List.nodup_cons.mpr ⟨by simp, List.nodup_nil⟩, fun a ha b hb e => h (by rw [← List.mem_singleton.mp hb, ← e]; exact ha)⟩
  · rcases List.mem_append.mp hx with hx | hx
    · exact f.sub x hx
    · rw [List.mem_singleton.mp hx]
      exact hn
  · rcases Nat.lt_or_ge i order.length with c | c
    · rw [List.getElem?_append_left c] at hx
      rw [List.take_append_of_le_length (Nat.le_of_lt c)]
      exact f.pre i x hx o ho hs
    · rw [List.getElem?_append_right c] at hx
      have ei : i - order.length = 0 := by
        rcases Nat.eq_zero_or_pos (i - order.length) with z | z
        · exact z
        · rw [List.getElem?_eq_none (by simp; omega)] at hx
          cases hx
      rw [ei] at hx
      cases hx
      rw [show i = order.length by omega, List.take_left]
      exact hw o ho hs
/-- what stands in such an order is in no knot -/
theorem FreeO.free {ns order : List Str} (f : FreeO W ns order) {S : List Str} (hs : ∀ n ∈ S, n ∈ ns) (hS : ∀ n ∈ S, ∃ o ∈ W n, o ∈ S) : ∀ (k : Nat) (i : Nat), i < k → ∀ n, order[i]? = some n → n ∉ S := by
  intro k
  induction k with
  | zero => intro i hi; exact absurd hi (Nat.not_lt_zero _)
  | succ k ih =>
    intro i hi n hn hm
    obtain ⟨o, ho, hoS⟩ := hS n hm
    have ht := f.pre i n hn o ho (hs o hoS)
    rw [List.mem_take_iff_getElem] at ht
    obtain ⟨j, hj, e⟩ := ht
    refine ih j (by omega) o ?_ hoS
    rw [← e]
    exact List.getElem?_eq_getElem (by omega)
theorem FreeO.no {ns order : List Str} (f : FreeO W ns order) (h : ∀ n ∈ ns, n ∈ order) : ¬ Knotted W ns := fun ⟨S, hne, hs, hS⟩ => by
  obtain ⟨n, hn⟩ := List.exists_mem_of_ne_nil S hne
  obtain ⟨i, hi, e⟩ := List.getElem_of_mem (h n (hs n hn))
  exact f.free hs hS (i + 1) i (Nat.lt_succ_self _) n (by rw [List.getElem?_eq_getElem hi, e]) hn
/-- one step of the law's own removal -/
def rstep (S : List Str) : List Str := S.filter fun n => (W n).any fun o => decide (o ∈ S)
def rsteps (W : Str → List Str) : Nat → List Str → List Str
  | 0, S => S
  | k + 1, S => rstep (W := W) (rsteps W k S)
theorem rsteps_sub {ns : List Str} : ∀ k, ∀ n ∈ rsteps W k ns, n ∈ ns
  | 0, n, h => h
  | k + 1, n, h => rsteps_sub k n (List.mem_filter.mp h).1
theorem rsteps_keep {ns S : List Str} (hs : ∀ n ∈ S, n ∈ ns) (hS : ∀ n ∈ S, ∃ o ∈ W n, o ∈ S) : ∀ k, ∀ n ∈ S, n ∈ rsteps W k ns
  | 0, n, h => hs n h
  | k + 1, n, h => by
    obtain ⟨o, ho, hoS⟩ := hS n h
    exact List.mem_filter.mpr ⟨rsteps_keep hs hS k n h, List.any_eq_true.mpr ⟨o, ho, decide_eq_true (rsteps_keep hs hS k o hoS)⟩⟩
theorem rsteps_len {ns : List Str} : ∀ k, rstep (W := W) (rsteps W k ns) = rsteps W k ns ∨ (rsteps W k ns).length + k ≤ ns.length
  | 0 => .inr (Nat.le_refl _)
  | k + 1 => by
    rcases rsteps_len (ns := ns) k with e | e
    · refine .inl ?_
      show rstep (W := W) (rstep (W := W) (rsteps W k ns)) = rstep (W := W) (rsteps W k ns)
      rw [e, e]
    · by_cases c : (rsteps W (k + 1) ns).length < (rsteps W k ns).length
      · exact .inr (by omega)
      · refine .inl ?_
        have l : (rstep (W := W) (rsteps W k ns)).length = (rsteps W k ns).length := by
          have := List.length_filter_le (fun n => (W n).any fun o => decide (o ∈ rsteps W k ns)) (rsteps W k ns)
          have c' : ¬ (rstep (W := W) (rsteps W k ns)).length < (rsteps W k ns).length := c
          unfold rstep at c' ⊢
          omega
        have e2 : rstep (W := W) (rsteps W k ns) = rsteps W k ns := List.filter_eq_self.mpr (List.length_filter_eq_length_iff.mp l)
        show rstep (W := W) (rstep (W := W) (rsteps W k ns)) = rstep (W := W) (rsteps W k ns)
        rw [e2, e2]
theorem rsteps_knot {ns : List Str} : rsteps W ns.length ns = [] ↔ ¬ Knotted W ns := by
  refine ⟨fun e ⟨S, hne, hs, hS⟩ => ?_, fun h => ?_⟩
  · obtain ⟨n, hn⟩ := List.exists_mem_of_ne_nil S hne
    have := rsteps_keep hs hS ns.length n hn
    rw [e] at this
    cases this
  · rcases rsteps_len (W := W) (ns := ns) ns.length with e | e
    · rcases Classical.em (rsteps W ns.length ns = []) with c | c
      · exact c
      · refine absurd ⟨_, c, fun n hn => rsteps_sub _ n hn, fun n hn => ?_⟩ h
        rw [← e] at hn
        obtain ⟨o, ho, z⟩ := List.any_eq_true.mp (List.mem_filter.mp hn).2
        exact ⟨o, ho, of_decide_eq_true z⟩
    · exact List.length_eq_zero_iff.mp (by omega)
/-- a trail of those that wait, each for the next -/
structure Trail (W : Str → List Str) (ns t : List Str) (n : Str) : Prop where
  nd : t.Nodup
  sub : ∀ x ∈ t, x ∈ ns
  nx : n ∈ ns
  step : ∀ i x y, t[i]? = some x → (t ++ [n])[i + 1]? = some y → y ∈ W x
theorem Trail.start {ns : List Str} {n : Str} (h : n ∈ ns) : Trail W ns [] n := ⟨List.nodup_nil, (fun x h => nomatch h), h, fun i x y h => by simp at h⟩
theorem Trail.more {ns t : List Str} {n m : Str} (h : Trail W ns t n) (hn : n ∉ t) (hm : m ∈ ns) (hw : m ∈ W n) : Trail W ns (t ++ [n]) m := by
  refine ⟨?_, fun x hx => ?_, hm, fun i x y hx hy => ?_⟩
  · rw [List.nodup_append]
    exact ⟨h.nd, List.nodup_cons.mpr ⟨by simp, List.nodup_nil⟩, fun a ha b hb e => hn (by rw [← List.mem_singleton.mp hb, ← e]; exact ha)⟩
  · rcases List.mem_append.mp hx with hx | hx
    · exact h.sub x hx
    · rw [List.mem_singleton.mp hx]
      exact h.nx
  · rcases Nat.lt_or_ge i t.length with c | c
    · rw [List.getElem?_append_left c] at hx
      rw [List.getElem?_append_left (by rw [List.length_append]; show i + 1 < t.length + 1; omega)] at hy
      exact h.step i x y hx hy
    · have hi : i < (t ++ [n]).length := (List.getElem?_eq_some_iff.mp hx).1
      rw [List.length_append] at hi
      have ei : i = t.length := by
        have : i < t.length + 1 := hi
        omega
      subst ei
      rw [List.getElem?_append_right (Nat.le_refl _), Nat.sub_self] at hx
      cases hx
      rw [List.getElem?_append_right (by rw [List.length_append]; exact Nat.le_refl _), List.length_append, show t.length + 1 - (t.length + [n].length) = 0 from Nat.sub_self _] at hy
      cases hy
      exact hw
theorem Trail.ring {ns t : List Str} {n : Str} (h : Trail W ns t n) {j : Nat} (hj : t[j]? = some n) (self : n ∉ W n) : IsRing W ns (t.drop j) := by
  have hlt : j < t.length := (List.getElem?_eq_some_iff.mp hj).1
  have key : ∀ i x, (t.drop j)[i]? = some x → ∃ o, (t.drop j)[(i + 1) % (t.drop j).length]? = some o ∧ o ∈ W x := fun i x hx => by
    rw [List.getElem?_drop] at hx
    have hi : j + i < t.length := (List.getElem?_eq_some_iff.mp hx).1
    rw [List.length_drop]
    by_cases c : j + i + 1 < t.length
    · rw [Nat.mod_eq_of_lt (by omega)]
      refine ⟨t[j + i + 1], ?_, h.step (j + i) x _ hx ?_⟩
      · rw [List.getElem?_drop, ← Nat.add_assoc]
        exact List.getElem?_eq_getElem c
      · rw [List.getElem?_append_left c]
        exact List.getElem?_eq_getElem c
    · have e : i + 1 = t.length - j := by omega
      rw [e, Nat.mod_self]
      refine ⟨n, ?_, h.step (j + i) x n hx ?_⟩
      · rw [List.getElem?_drop]
        exact hj
      · rw [show j + i + 1 = t.length by omega, List.getElem?_append_right (Nat.le_refl _), Nat.sub_self]
        rfl
  refine ⟨?_, List.Nodup.sublist (List.drop_sublist ..) h.nd, fun x hx => h.sub x (List.mem_of_mem_drop hx), key⟩
  rcases Nat.lt_or_ge 1 (t.drop j).length with c | c
  · exact c
  · have l : (t.drop j).length = 1 := by
      rw [List.length_drop] at c ⊢
      omega
    obtain ⟨o, ho, hw⟩ := key 0 n (by rw [List.getElem?_drop]; exact hj)
    rw [l, Nat.mod_self, List.getElem?_drop] at ho
    have : o = n := Option.some.inj (ho.symm.trans hj)
    rw [this] at hw
    exact absurd hw self
end
end UT
/-! own layer: dicts whose keys are tuples: comprehensions (after the library's rule for plain keys), sorted -/
namespace UD
open PySem PySem.Spec PyProof.Rows L2 UW UP
section
variable {X : Cx}
/-- d[k] = v, k a tuple, as a comprehension does it -/
theorem put_tup {pins : List (Addr × Obj)} {σ : L2.St} {H : Hp} {s : Shared} {E : Value → Shared → Prop} {D b : Addr} {kvs : List (List Key × V)} {k : List Key} {v : V} {r : Value} {Q : Unit → Shared → Prop}
    (hu : X.A.units + 1 < cLine) (I : L2.Inv X pins σ H s) (hD : H D = some (.dT kvs)) (hb : H b = some (.tup (k.map kV))) (hz : kvs.length < sizeLine) (rv : RelV v r)
    (h : ∀ s', L2.Inv X pins σ (upd H D (.dT (putK kvs k v))) s' → Q () s') : wpAny (model X.prog X.w) X.A (dictSet D (.ref b) r) Q E s := by
  obtain ⟨z, nsys, xs, rel, dd⟩ := dt_of I.hok hD
  have few : (putK kvs k v).length ≤ sizeLine := by
    have := length_putK kvs k v
    omega
  refine wpAny_dictSet_heap (hsz := by rw [← Paired.length rel]; exact z) (show X.A.units < cLine by omega) (key_of I.hok hb) dd fun h2 dd2 same => h _ ?_
  obtain ⟨o, es, ep, e1, e2, e3, e4, _, e5⟩ := dd2
  refine d_write I (by rw [hD]; exact True.intro) same ⟨o, e1⟩ ⟨few, nsys, _, (rel.put k hb rv).keeps fun c ys ec => ?_, o, es, ep, e1, e2, e3, e4, e5⟩
  rw [upd_ne (ne_of ec hD (fun q => nomatch q))]
  exact ec
/-- {k: v for ..}, the keys tuples: D the new dict -/
def tDt (wi : TI) (g : TG) (tt : TT) (tk tv : TE) (vs : List Nat) : TE := fun σ H Q => wi σ H fun J H1 => ∀ D, H1 D = none → ∃ W : Nat → Nat → Hp → Prop, (∃ m, W 0 m (upd H1 D (.dT []))) ∧ ∀ i m H, W i m H →
  (J.stop i H ∧ Q (.ref D) H) ∨ (J.go i H ∧ ∃ Nx : Hp → Prop, (∀ H', Nx H' → ∃ m', m' < m ∧ W (i + 1) m' H') ∧ ∀ x H', J.yld i H x H' → g x (wipe σ vs) H' fun σ2 H2 => wipe σ2 vs = wipe σ vs ∧ tt σ2 H2 fun c H3 =>
    if c = true then tk σ2 H3 fun y H4 => tv σ2 H4 fun z H5 => ∃ kvs k b, y = .ref b ∧ H5 b = some (.tup (k.map kV)) ∧ H5 D = some (.dT kvs) ∧ kvs.length < sizeLine ∧ Nx (upd H5 D (.dT (putK kvs k z))) else Nx H3)
theorem dt_core {pins : List (Addr × Obj)} {s : Shared} {σ : L2.St} {H : Hp} {Q : VK} {kx vx tg iter : Expr} {ifs : List Expr} {scope : Scope} {own : List (Str × Nat)} {pos pos' : Pos} {wi : TI} {g : TG} {tt : TT} {tk tv : TE} {use : Option (Value → Sem Unit)} {Qf : Value → Shared → Prop}
    (hu : X.A.units + 1 < cLine) (hc : X.calm = true) (hN : X.N.Nodup) (I : L2.Inv X pins σ H s) (hi : PI X tg iter wi) (ok : BlkOk X.N X.env.scope scope own)
    (hg : ∀ s H C cl fp, PG (X.blk s H scope (compEnvC scope cl C X.env) fp) tg g) (ht : ∀ s H C cl fp, PTs (X.blk s H scope (compEnvC scope cl C X.env) fp) ifs tt)
    (hk : ∀ s H C cl fp, PE (X.blk s H scope (compEnvC scope cl C X.env) fp) kx tk) (hv : ∀ s H C cl fp, PE (X.blk s H scope (compEnvC scope cl C X.env) fp) vx tv)
    (hs : ∀ x, foldedSetIterable iter X.env x = pure x) (h : tDt wi g tt tk tv (own.map (·.2)) σ H Q)
    (fin : ∀ D C s' m H', L2.Inv X pins σ H' s' → Q (.ref D) H' → s'.heap.Ns C m → FpOk X pins H' C → compPost (model X.prog X.w) X.A X.xe use Qf (.ref D) C (.ok .next) s') :
    wpAny (model X.prog X.w) X.A (comprehension (.DictComp kx vx [⟨tg, iter, ifs, 0⟩] scope pos) scope X.env pos' newDict false (eval iter X.env) use) Qf X.xe s := by
  have cells : ∀ y ∈ scope.names, y.2 = .free → ∃ c, X.env.cells.lookup y.1 = some c := fun y hy e => (ok.free y hy e).elim (fun q => I.ok.has _ (.inl q)) fun q => I.ok.has _ (.inr q)
  refine wpAny_comprehension_free (use := use) rfl hs (closure_ok cells) ok.kind (fun y hy e => (ok.uniq y hy).trans (congrArg some e)) (thn (hi.run pins s σ H _ I h) fun _ _ q1 => thn q1 fun _ s2 q2 => ?_)
  obtain ⟨it, fp, tn, J, H2, rfl, I2, T, st2, f2, walk⟩ := q2
  refine wpAny_newObj_type (newEnv_comp ?_)
  obtain ⟨D, eD⟩ : ∃ D, s2.heap.objs.size = D := ⟨_, rfl⟩
  have freeD : H2 D = none := I2.hok.fresh (Nat.le_of_eq eD)
  obtain ⟨W, ⟨m0, w0⟩, turn⟩ := walk D freeD
  obtain ⟨z3, e3⟩ : ∃ z3 : Shared, { s2 with heap := s2.heap.push { cls := .type "dict", data := .dict #[] } } = z3 := ⟨_, rfl⟩
  have heap3 : z3.heap = s2.heap.push { cls := .type "dict", data := .dict #[] } := by rw [← e3]
  obtain ⟨H3, eH3⟩ : ∃ H3, upd H2 D (.dT []) = H3 := ⟨_, rfl⟩
  have I3 : L2.Inv X pins σ H3 z3 := by
    rw [← e3, ← eH3]
    refine I2.laid (t' := s2.toks) (fun _ _ e => Heap.get?_push_of_some _ e) (Nat.le_of_eq eD) ?_
    rw [← eD]
    exact dt_empty s2.heap I2.big
  have lt : ∀ c ∈ fp, c < s2.heap.objs.size := fun c hc => let ⟨_, e, _⟩ := T.obj _ _ st2 c hc; Heap.lt_size e
  have f3 : ∀ c ∈ fp, FpOk X pins H3 c ∧ c < z3.heap.objs.size := fun c hc => by
    refine ⟨⟨?_, (f2 c hc).2⟩, ?_⟩
    · rw [← eH3, upd_ne (by rw [← eD]; exact Nat.ne_of_lt (lt c hc))]
      exact (f2 c hc).1
    · rw [heap3, Heap.size_push]
      exact Nat.lt_succ_of_lt (lt c hc)
  have st3 : tn 0 z3.heap := T.keep _ _ _ st2 fun _ _ _ e => by rw [heap3]; exact Heap.get?_push_of_some _ e
  have I4 := block_start I3 ok hN f3
  obtain ⟨cl, ecl⟩ : ∃ cl, cellsFrom (z3.heap.objs.size + 1) scope.names (cloFrom X.env.cells scope.names []) = cl := ⟨_, rfl⟩
  rw [ecl] at I4
  have pg := hg z3 H3 z3.heap.objs.size cl fp
  have pt := ht z3 H3 z3.heap.objs.size cl fp
  have pk := hk z3 H3 z3.heap.objs.size cl fp
  have pv := hv z3 H3 z3.heap.objs.size cl fp
  have free3 : ∀ c ∈ fp, H3 c = none := fun c hc => (f3 c hc).1.1
  rw [eH3] at w0
  rw [e3]
  show codeAny _ _ (.compStart (.DictComp kx vx [⟨tg, iter, ifs, 0⟩] scope pos) 0 (.ref it) (.ref s2.heap.objs.size) (compEnvC scope (cellsFrom (z3.heap.objs.size + 1) scope.names (cloFrom X.env.cells scope.names [])) z3.heap.objs.size X.env)) (compPost (model X.prog X.w) X.A X.xe use Qf (.ref s2.heap.objs.size) z3.heap.objs.size) { z3 with heap := pushCells (z3.heap.push { cls := .type "dict", data := .dict #[] }) scope.names }
  rw [ecl, eD]
  obtain ⟨ce, ece⟩ : ∃ ce, compEnvC scope cl z3.heap.objs.size X.env = ce := ⟨_, rfl⟩
  rw [ece] at I4 pg pt pk pv ⊢
  have loc : ce.locals = z3.heap.objs.size := by rw [← ece]; rfl
  obtain ⟨z4, e4⟩ : ∃ z4 : Shared, { z3 with heap := pushCells (z3.heap.push { cls := .type "dict", data := .dict #[] }) scope.names } = z4 := ⟨_, rfl⟩
  rw [e4] at I4 ⊢
  have st4 : tn 0 z4.heap := T.keep _ _ _ st3 fun _ _ _ e => by rw [← e4]; exact pushCells_keeps _ _ _ _ (Heap.get?_push_of_some _ e)
  have fpok : ∀ {τ : L2.St} {G : Hp} {t : Shared}, L2.Inv (X.blk z3 H3 scope ce fp) [] τ G t → (∀ c ∈ fp, G c = none) → ∀ c ∈ fp, FpOk (X.blk z3 H3 scope ce fp) [] G c := fun {τ G t} J hn c hc =>
    ⟨hn c hc, (J.ok.exf c hc).1, J.ok.exfs c hc, .inl hc, fun x a e => (J.ok.exf c hc).2 x a e, fun p hp => absurd (show p ∈ ([] : List (Addr × Obj)) ++ [] from hp) (by simp)⟩
  have loop : codeAny (model X.prog X.w) X.A (.compLoop (.DictComp kx vx [⟨tg, iter, ifs, 0⟩] scope pos) 0 (.ref it) (.ref D) ce) (compPost (model X.prog X.w) X.A X.xe use Qf (.ref D) z3.heap.objs.size) z4 := by
    refine compLoop_anyD (fun n t => ∃ i G, L2.Inv (X.blk z3 H3 scope ce fp) [] (wipe σ (own.map (·.2))) G t ∧ tn i t.heap ∧ (∀ c ∈ fp, G c = none) ∧ W i n G) ?_ m0 ⟨0, H3, I4, st4, free3, w0⟩
    rintro n t5 ⟨i, G5, J5, k5, n5, w5⟩
    rcases turn i n G5 w5 with ⟨stop, q⟩ | ⟨go, Nx, more, step⟩
    · refine thnF (T.done (X.blk z3 H3 scope ce fp) rfl rfl rfl hc i [] t5 _ G5 (fun _ _ => False) J5 (fpok J5 n5) k5 stop) fun r t6 ⟨er, J6⟩ => ?_
      subst er
      have back : L2.Inv X pins σ G5 t6 := I3.call' (ch := fp) J6.os J6.base J6.hok J6.bare fun c hc => let f := (f3 c hc).1.2; ⟨f.2.2.1, f.1, f.2.2.2.1, f.2.2.2.2⟩
      obtain ⟨m, ns, _⟩ := J6.loc
      have ns2 : t6.heap.Ns z3.heap.objs.size m := loc ▸ ns
      have gone : G5 z3.heap.objs.size = none := loc ▸ J6.free
      exact fin D z3.heap.objs.size t6 m G5 back q ns2 (I3.fpOk (Nat.le_refl _) gone)
    · refine thnF (T.item (X.blk z3 H3 scope ce fp) rfl rfl rfl hc i [] t5 _ G5 (fun _ _ => False) J5 (fpok J5 n5) k5 go) fun r t6 ⟨u, er, q6⟩ => ?_
      subst er
      refine thnF q6 fun _ t7 ⟨x, G7, J7, r7, y7, k7, n7⟩ => ?_
      refine thnF (pg.run _ t7 _ G7 x u _ (J7.pinned (fpok J7 n7) (T.obj _ _ k7)) r7 (step x G7 y7)) fun _ t8 ⟨τ, G8, J8, hw, q8⟩ => ?_
      refine thnF (pt.run _ t8 τ G8 _ J8 q8) fun c t9 ⟨G9, J9, q9⟩ => ?_
      have close : ∀ {t : Shared} {G : Hp}, L2.Inv (X.blk z3 H3 scope ce fp) ([] ++ pinsAt fp t7.heap) τ G t → Nx G → ∃ m, m < n ∧ ∃ i G, L2.Inv (X.blk z3 H3 scope ce fp) [] (wipe σ (own.map (·.2))) G t ∧ tn i t.heap ∧ (∀ c ∈ fp, G c = none) ∧ W i m G := fun {t G} J nx => by
        obtain ⟨m', lt', w'⟩ := more G nx
        have pin : ∀ c ∈ fp, ∀ o, t7.heap.get? c = some o → t.heap.get? c = some o ∧ G c = none := fun c hc o e =>
          let p := J.pin (c, o) (List.mem_append_right _ (List.mem_append_right _ (mem_pinsAt hc e)))
          ⟨p.1, p.2.1⟩
        refine ⟨m', lt', i + 1, G, (J.unpinned (pins := [])).weak (by rw [← hw, wipe_length]) (fun j v e => ?_), T.keep _ _ _ k7 fun c hc o e => (pin c hc o e).1, fun c hc => ?_, w'⟩
        · rw [← hw] at e
          exact (wipe_some e).1
        · obtain ⟨o, e, _⟩ := T.obj _ _ k7 c hc
          exact (pin c hc o e).2
      cases c with
      | false =>
        simp only [Bool.false_eq_true, if_false] at q9 ⊢
        exact close J9 q9
      | true =>
        simp only [if_true] at q9 ⊢
        refine thnF (pk.run _ t9 τ G9 _ J9 q9) fun ku t10 ⟨yk, G10, J10, r10, q10⟩ => ?_
        refine thnF (pv.run _ t10 τ G10 _ J10 q10) fun vu t11 ⟨yv, G11, J11, r11, kvs, k, b, ek, hb, hD, few, nx⟩ => ?_
        subst ek
        cases (show ku = Value.ref b from r10)
        exact put_tup (X := X.blk z3 H3 scope ce fp) hu J11 hD hb few r11 fun t12 J12 => close J12 nx
  exact codeAny_compStart_dict loop (T.self X.A 0 _ _ _ st4 loop)
/-- y = {k: v for ..}, the keys tuples, y a plain local -/
theorem ps_setDt {i : Nat} {y : Str} {py pos spos : Pos} {kx vx tg iter : Expr} {ifs : List Expr} {scope : Scope} {own : List (Str × Nat)} {wi : TI} {g : TG} {tt : TT} {tk tv : TE}
    (hu : X.A.units + 1 < cLine) (hc : X.calm = true) (hN : X.N.Nodup) (hy : X.N[i]? = some y) (hyl : X.env.scope.names.lookup y = some .local) (hsw : swapsWith (.DictComp kx vx [⟨tg, iter, ifs, 0⟩] scope pos) (some (.Name y py)) spos.line X.env = pure true)
    (hi : PI X tg iter wi) (ok : BlkOk X.N X.env.scope scope own)
    (hg : ∀ s H C cl fp, PG (X.blk s H scope (compEnvC scope cl C X.env) fp) tg g) (ht : ∀ s H C cl fp, PTs (X.blk s H scope (compEnvC scope cl C X.env) fp) ifs tt)
    (hk : ∀ s H C cl fp, PE (X.blk s H scope (compEnvC scope cl C X.env) fp) kx tk) (hv : ∀ s H C cl fp, PE (X.blk s H scope (compEnvC scope cl C X.env) fp) vx tv)
    (hs : ∀ x, foldedSetIterable iter X.env x = pure x := by intro _; rfl) :
    PS X (.Assign [.Name y py] (.DictComp kx vx [⟨tg, iter, ifs, 0⟩] scope pos) spos) (tAsg (tDt wi g tt tk tv (own.map (·.2))) (gName i)) := by
  refine ⟨fun pins s σ H D I h => ?_⟩
  rw [exec_Assign_Name_used _ _ _ _ hsw]
  refine wpAny_bind (wpAny_standAt (wpAny_bind (wpAny_bind (m := comprehension _ _ _ _ newDict false (eval iter X.env) (some (assign (.Name y py) X.env))) (thn ?_ fun _ z q => wpAny_pure (wpAny_pure q)))))
  refine dt_core (Qf := fun _ z => SP X pins D .next z) hu hc hN I hi ok hg ht hk hv hs (Q := fun x H1 => gName i x σ H1 D.nx) h fun L C z m H2 I2 q ns fp => ?_
  show wpAny _ _ (assign (.Name y py) X.env (.ref L)) _ _ _
  refine wpAny_assign_Name (store_ok2 (v := V.ref L) I2 hN hy (.inl hyl) rfl (fun z2 J ⟨a, sb, ha⟩ => ?_) (.inr hyl))
  obtain ⟨f0, f1, f2, f3, f4, f5⟩ := fp
  have ne : C ≠ a := ha.elim (fun e => e ▸ f1) fun e q => f4 y a e q.symm
  exact ⟨m, ns.sameBut sb ne, fun h3 sb3 => ⟨_, H2, J.turned (t' := z2.toks) (fun b o hb e => (sb3.2 b hb).trans e) f0 f1 f3 f4 f5, q⟩⟩
end
end UD

namespace UD
open PySem PySem.Spec PyProof.Rows L2 UW UP
/-! ### the order of pairs of texts -/
def ltP (p q : Str × Str) : Bool := if p.1 = q.1 then ltS p.2 q.2 else ltS p.1 q.1
def leP (p q : Str × Str) : Bool := !ltP q p
theorem ltS_asy {x y : Str} (h : ltS x y = true) : ltS y x = false := by
  cases q : ltS y x
  · rfl
  · have := ltS_tr h q
    rw [ltS_irr] at this
    cases this
theorem leP_iff (p q : Str × Str) : leP p q = true ↔ ltS p.1 q.1 = true ∨ (p.1 = q.1 ∧ leS p.2 q.2 = true) := by
  unfold leP ltP
  by_cases e : q.1 = p.1
  · rw [if_pos e]
    refine ⟨fun h => .inr ⟨e.symm, h⟩, fun h => ?_⟩
    rcases h with h | h
    · rw [e, ltS_irr] at h
      cases h
    · exact h.2
  · rw [if_neg e]
    refine ⟨fun h => .inl (ltS_or ?_ e), fun h => ?_⟩
    · rw [Bool.not_eq_true'] at h
      exact h
    · rcases h with h | h
      · rw [ltS_asy h]
        rfl
      · exact absurd h.1.symm e
theorem leP_tr {p q r : Str × Str} (h : leP p q = true) (g : leP q r = true) : leP p r = true := by
  rw [leP_iff] at *
  rcases h with h | ⟨h, h2⟩
  · rcases g with g | ⟨g, _⟩
    · exact .inl (ltS_tr h g)
    · rw [← g]
      exact .inl h
  · rcases g with g | ⟨g, g2⟩
    · rw [h]
      exact .inl g
    · exact .inr ⟨h.trans g, leS_tr h2 g2⟩
theorem leP_anti {p q : Str × Str} (h : leP p q = true) (g : leP q p = true) : p = q := by
  rw [leP_iff] at *
  rcases h with h | ⟨h, h2⟩
  · rcases g with g | ⟨g, _⟩
    · rw [ltS_asy h] at g
      cases g
    · rw [g, ltS_irr] at h
      cases h
  · rcases g with g | ⟨_, g2⟩
    · rw [h, ltS_irr] at g
      cases g
    · exact Prod.ext h (leS_anti h2 g2)
theorem leP_tot (p q : Str × Str) : (leP p q || leP q p) = true := by
  rw [Bool.or_eq_true, leP_iff, leP_iff]
  by_cases e : p.1 = q.1
  · rcases leS_tot p.2 q.2 with h | h
    · exact .inl (.inr ⟨e, h⟩)
    · exact .inr (.inr ⟨e.symm, h⟩)
  · cases h : ltS p.1 q.1
    · exact .inr (.inl (ltS_or h e))
    · exact .inl (.inl rfl)
/-- sorted(pairs) -/
def srtP (ds : List (Str × Str)) : List (Str × Str) := ds.mergeSort leP
theorem srtP_perm (ds : List (Str × Str)) : (srtP ds).Perm ds := List.mergeSort_perm ..
theorem srtP_pw (ds : List (Str × Str)) : (srtP ds).Pairwise fun x y => leP x y = true := List.pairwise_mergeSort (le := leP) (fun a b c h g => leP_tr h g) leP_tot ds
theorem srtP_uniq {ds es : List (Str × Str)} (p : es.Perm ds) (h : es.Pairwise fun x y => leP x y = true) : es = srtP ds := pw_uniq (fun _ _ a b => leP_anti a b) (p.trans (srtP_perm ds).symm) h (srtP_pw ds)
theorem srtP_congr {ds es : List (Str × Str)} (p : es.Perm ds) : srtP es = srtP ds := srtP_uniq ((srtP_perm es).trans p) (srtP_pw es)
theorem srtP_mem {d : Str × Str} {ds : List (Str × Str)} : d ∈ srtP ds ↔ d ∈ ds := (srtP_perm ds).mem_iff
theorem srtP_len (ds : List (Str × Str)) : (srtP ds).length = ds.length := (srtP_perm ds).length_eq
theorem le_data (a b : Str × Str) : PySem.W.dataLe false enc2 a b = leP a b := by
  show (!PySem.W.dataLt (enc2 b) (enc2 a)) = leP a b
  have e : PySem.W.dataLt (enc2 b) (enc2 a) = PySem.W.DatumOrd.lt b a := PySem.W.DatumOrd.lt_eq b a
  rw [e]
  rfl
/-! ### lists of pairs that stand by themselves -/
inductive PrH (H : Hp) : List V → List (Str × Str) → Prop
  | nil : PrH H [] []
  | cons {t : Addr} {d : Str × Str} {xs : List V} {ds : List (Str × Str)} : H t = some (.tup [.str d.1, .str d.2]) → PrH H xs ds → PrH H (.ref t :: xs) (d :: ds)
section
variable {K : PySem.W.Frag} {H H' : Hp} {xs ys : List V} {ds es : List (Str × Str)}
theorem PrH.prs (h : PrH H xs ds) : Prs K H xs ds := by
  induction h with
  | nil => exact .nil
  | cons a _ ih => exact .cons (SqT.of a) ih
theorem PrH.same (h : PrH H xs ds) (s : Same H H') : PrH H' xs ds := by
  induction h with
  | nil => exact .nil
  | cons a _ ih => exact .cons (s _ _ a) ih
theorem PrH.keep {q : Addr} (h : PrH H xs ds) (k : Kp q H H') (n : NotTup H q) : PrH H' xs ds := by
  induction h with
  | nil => exact .nil
  | cons a _ ih => exact .cons (k _ _ a (n.ne a)) ih
theorem PrH.len (h : PrH H xs ds) : xs.length = ds.length := (h.prs (K := default)).len
theorem PrH.app (h : PrH H xs ds) (g : PrH H ys es) : PrH H (xs ++ ys) (ds ++ es) := by
  induction h with
  | nil => exact g
  | cons a _ ih => exact .cons a ih
theorem PrH.get {i : Nat} {x : V} (h : PrH H xs ds) (e : xs[i]? = some x) : ∃ t d, x = .ref t ∧ ds[i]? = some d ∧ H t = some (.tup [.str d.1, .str d.2]) := by
  induction h generalizing i with
  | nil => simp at e
  | @cons t d _ _ a _ ih =>
    cases i with
    | zero =>
      cases e
      exact ⟨t, d, rfl, rfl, a⟩
    | succ i => exact ih e
def RH (H : Hp) (u : Value) (d : Str × Str) : Prop := ∃ t, u = .ref t ∧ H t = some (.tup [.str d.1, .str d.2])
theorem PrH.each (h : PrH H xs ds) {us : List Value} (r : Vals xs us) : PySem.W.EachIs (RH H) us ds := by
  induction h generalizing us with
  | nil =>
    cases r
    exact .nil
  | cons a _ ih =>
    cases r with
    | cons r1 r2 => exact .cons ⟨_, r1, a⟩ (ih r2)
theorem each_prH {us : List Value} (h : PySem.W.EachIs (RH H) us ds) : ∃ xs, Vals xs us ∧ PrH H xs ds := by
  induction h with
  | nil => exact ⟨[], .nil, .nil⟩
  | cons a _ ih =>
    obtain ⟨xs, r, p⟩ := ih
    obtain ⟨t, rfl, ht⟩ := a
    exact ⟨.ref t :: xs, .cons rfl r, .cons ht p⟩
end
section
variable {X : Cx}
/-- sorted(xs), xs a list of pairs of texts -/
def rSortP (K : PySem.W.Frag) : List V → Hp → VK → Prop := fun vs H Q => ∃ (a : Addr) (xs : List V) (ds : List (Str × Str)), vs = [.ref a] ∧ SqL K H a xs ∧ PrH H xs ds ∧ ds.length ≤ 1000 ∧
  ∀ p ys, H p = none → PrH H ys (srtP ds) → Q (.ref p) (upd H p (.lst ys))
theorem each_reads {pins : List (Addr × Obj)} {σ : L2.St} {H : Hp} {s : Shared} (I : L2.Inv X pins σ H s) {xs : List V} {ds : List (Str × Str)} {us : List Value} (h : PrH H xs ds) (r : Vals xs us) : PySem.W.EachIs (fun v b => ∃ as, PySem.Reads s.heap v (enc2 b) as) us ds := by
  obtain ⟨as, hr⟩ := Dp.readsAll I (ds.map enc2) _ _ (h.prs (K := X.K)).dp r
  exact PySem.W.readsAll_each enc2 hr
theorem sort_eq (ds : List (Str × Str)) : ds.mergeSort (PySem.W.dataLe false enc2) = srtP ds := by
  have : PySem.W.dataLe false enc2 = leP := funext fun a => funext fun b => le_data a b
  rw [this]
  rfl
theorem depth2 (d : Str × Str) : PyData.depth (enc2 d) = 1 := by
  unfold enc2
  simp only [PyData.depth, PyData.depthAll, Nat.max_self]
theorem alike2 (ds : List (Str × Str)) : PySem.W.AllAlike (ds.map enc2) := PySem.W.AllAlike.of fun a b => PySem.W.DatumOrd.alike a b
theorem sortable2 (ds : List (Str × Str)) : PySem.W.Sortable (ds.map enc2) := PySem.W.Sortable.tuples fun b => ⟨_, _, rfl⟩
theorem cr_sortP (hu : X.A.units + 64 < cLine) : CallR X (.builtin "sorted") (rSortP X.K) := by
  intro pins s σ H vs us Q I r h
  obtain ⟨a, xs, ds, rfl, hs, hp, few, q⟩ := h
  obtain ⟨its, rv, hl, _⟩ := I.list hs
  rw [Vals.ref1 r]
  refine PySem.W.sorted_data (R := RH H) (enc := enc2) hl.isList (hp.each rv) (each_reads I hp rv) (alike2 ds) (sortable2 ds) (Nat.le_of_lt (small1000 few)) (fun b _ => by rw [depth2]; omega) fun out hlen ho => ?_
  rw [sort_eq] at ho
  obtain ⟨ys, ry, py⟩ := each_prH ho
  obtain ⟨ep, he⟩ := PyProof.Rows.sortedAll_at s.heap its out.toArray
  refine ⟨.ref _, upd H (s.heap.objs.size + 1) (.lst ys), I.laid (t' := s.toks) (fun _ _ => PyProof.Rows.sortedAll_old) (Nat.le_succ _) ⟨?_, out, ep, ry, he⟩, rfl, q _ ys (I.hok.fresh (Nat.le_succ _)) py⟩
  rw [py.len, srtP_len]
  exact Nat.le_of_lt (small1000 few)
end
end UD

namespace UD
open PySem PySem.Spec PyProof.Rows L2 UW UP
theorem readsAll2 {h : Heap} {l : List Value} {x y : Str} {as : List Addr} (r : PySem.ReadsAll h l [.str x, .str y] as) : as = [] := by
  cases r with
  | cons r5 r6 =>
    cases r5
    cases r6 with
    | cons r7 r8 =>
      cases r7
      cases r8
      rfl
theorem reads2 {h : Heap} {v : Value} {d : Str × Str} {as : List Addr} (r : PySem.Reads h v (enc2 d) as) : as = [] := by
  unfold enc2 at r
  cases r with
  | tuple _ _ _ r4 => exact readsAll2 r4
def key2 (d : Str × Str) : List Key := [Sum.inr d.1, Sum.inr d.2]
theorem keys_prH {H : Hp} : ∀ {kvs : List (List Key × V)} {bs : List Addr} {ds : List (Str × Str)}, IsKeys H kvs bs → kvs.map (·.1) = ds.map key2 → PrH H (bs.map V.ref) ds
  | _, _, [], .nil, _ => .nil
  | _, _, d :: ds, .nil, e => by simp at e
  | _, _, [], .cons _ _, e => by simp at e
  | _, _, d :: ds, .cons h t, e => by
    rw [List.map_cons, List.map_cons] at e
    injection e with e1 e2
    rw [List.map_cons]
    refine .cons ?_ (keys_prH t e2)
    rw [e1] at h
    exact h
section
variable {X : Cx}
/-- sorted(d), the keys of d pairs of texts -/
def rSortDT : List V → Hp → VK → Prop := fun vs H Q => ∃ (a : Addr) (kvs : List (List Key × V)) (ds : List (Str × Str)), vs = [.ref a] ∧ Rd H a (.dT kvs) ∧ kvs.map (·.1) = ds.map key2 ∧ ds.length ≤ 1000 ∧
  ∀ p ys, H p = none → PrH H ys (srtP ds) → Q (.ref p) (upd H p (.lst ys))
theorem cr_sortDT (hc : X.calm = true) (hu : X.A.units + 64 < cLine) : CallR X (.builtin "sorted") rSortDT := by
  intro pins s σ H vs us Q I r h
  obtain ⟨a, kvs, ds, rfl, hd, hkeys, few, q⟩ := h
  rw [Vals.ref1 r]
  obtain ⟨_, nsys, ks, pr, o, es, ep, ho, hx, hdt, he, _⟩ := (show ObjOk X.prog X.w H s.heap a (.dT kvs) from hd.ok I.hok)
  have l1 : es.size = ks.length := size_of_entries he
  have l2 : kvs.length = ks.length := Paired.length pr
  have l3 : kvs.length = ds.length := by
    have := congrArg List.length hkeys
    rw [List.length_map, List.length_map] at this
    exact this
  have room : ds.length ≤ sizeLine := Nat.le_of_lt (small1000 few)
  refine Calls.call_function_entry PyProof.Rows.kind_sorted PyProof.Rows.plain_sorted PyProof.Rows.entry_sorted (PyProof.Rows.args_sorted1 _) ?_
  unfold Builtin.«sorted»
  refine wpAny_bind (m := checkCount "sorted" 1 1 _) (wpAny_pure ?_)
  refine wpAny_bind (PySem.W.kdu_collect (A := X.A.in1) (kdl_raw nsys hx hdt) (I.ok.hd hc) ho (by omega) fun h2 tk acc keep items => ?_)
  have hacc : acc.toList = (ks.map fun x => x.2.1).map Value.ref := by
    have len : acc.toList.length = ks.length := by
      rw [Array.length_toList, items.1]
      exact l1
    rw [List.map_map]
    refine List.ext_getElem? fun j => ?_
    rw [List.getElem?_map]
    rcases Nat.lt_or_ge j ks.length with c | c
    · have hj : acc.toList[j]? = some acc.toList[j] := List.getElem?_eq_getElem (by omega)
      obtain ⟨en, hen, hv⟩ := items.2 j _ (by rw [← Array.getElem?_toList]; exact hj)
      have qe := entry_at he j
      rw [hen, List.getElem?_eq_getElem c] at qe
      rw [hj, hv, List.getElem?_eq_getElem c, Option.some.inj qe]
      rfl
    · rw [List.getElem?_eq_none (by omega), List.getElem?_eq_none c]
      rfl
  have I1 : L2.Inv X pins σ H { s with heap := h2, toks := tk } := I.kept keep
  have pH := keys_prH (isKeys_of pr) hkeys
  have rv : Vals ((ks.map fun x => x.2.1).map V.ref) acc.toList := by
    rw [hacc]
    exact vals_refs _
  have alen : acc.toList.length = ds.length := by rw [← rv.length, pH.len]
  refine wpAny_bind (wpAny_newList ?_ (by rw [alen]; exact room))
  have here : (h2.push (seqObj "list" acc.toList.toArray 0)).get? h2.objs.size = some (seqObj "list" acc.toList.toArray 0) := Heap.get?_push_size _ rfl
  have reads : PySem.W.EachIs (fun v b => ∃ as, PySem.Reads (h2.push (seqObj "list" acc.toList.toArray 0)) v (enc2 b) as ∧ h2.objs.size ∉ as) acc.toList ds :=
    (each_reads I1 pH rv).mono fun v b ⟨as, rd⟩ => ⟨as, PyProof.Rows.Reads.keeps (fun _ _ e => Heap.get?_push_of_some _ e) rd, by rw [reads2 rd]; simp⟩
  refine wpAny_bind (wpAny_holding (PySem.W.list_sort_data (A := X.A.in1) (s := { s with heap := h2.push (seqObj "list" acc.toList.toArray 0), toks := tk }) (R := RH H) (enc := enc2) here (pH.each rv) reads (alike2 ds) (sortable2 ds) room (fun b _ => by rw [depth2]; show X.A.units + 1 + 1 + 1 < cLine; omega) fun out hlen hout => ?_))
  rw [sort_eq] at hout
  obtain ⟨ys, ry, py⟩ := each_prH hout
  obtain ⟨e2, at2⟩ := PyProof.Rows.sortedHeap_at (vs := acc.toList) (out := out.toArray) here
  refine wpAny_pure ⟨_, rfl, .ref h2.objs.size, upd H h2.objs.size (.lst ys), I1.laid (t' := tk) (fun b u e => ?_) (Nat.le_refl _) ⟨?_, out, e2, ry, at2⟩, rfl, q _ ys (I1.hok.fresh (Nat.le_refl _)) py⟩
  · have lt : b < h2.objs.size := Heap.lt_size e
    rw [PyProof.Rows.sortedHeap_old (Nat.ne_of_lt lt) (by rw [size_push']; exact Nat.lt_succ_of_lt lt)]
    exact Heap.get?_push_of_some _ e
  · rw [py.len, srtP_len]
    exact room
end
end UD

namespace UD
open PySem L2 UW UP
theorem NotTup.dT {H : Hp} {q : Addr} {kvs : List (List Key × V)} (h : H q = some (.dT kvs)) : NotTup H q := fun ys e => by rw [h] at e; cases e
/-- a comprehension with tuple keys, walked -/
theorem dt_it {J : It} {n : Nat} {G : Hp → Prop} {Y : Nat → Hp → V → Hp → Prop} (w : Walk J n G Y) {g : TG} {tt : TT} {tk tv : TE} {vs : List Nat} {σ : L2.St} {H1 : Hp} {D : Addr} {Qd : Hp → Prop} (Pv : Nat → Hp → Prop) (h0 : Pv 0 (upd H1 D (.dT []))) (hG : ∀ i H, i ≤ n → Pv i H → G H)
    (hs : ∀ i x H H', i < n → Pv i H → Y i H x H' → g x (wipe σ vs) H' fun σ2 H2 => wipe σ2 vs = wipe σ vs ∧ tt σ2 H2 fun c H3 =>
      if c = true then tk σ2 H3 fun y H4 => tv σ2 H4 fun z H5 => ∃ kvs k b, y = .ref b ∧ H5 b = some (.tup (k.map kV)) ∧ H5 D = some (.dT kvs) ∧ kvs.length < sizeLine ∧ Pv (i + 1) (upd H5 D (.dT (putK kvs k z))) else Pv (i + 1) H3)
    (hd : ∀ H, Pv n H → Qd H) :
    ∃ W : Nat → Nat → Hp → Prop, (∃ m, W 0 m (upd H1 D (.dT []))) ∧ ∀ i m H, W i m H →
      (J.stop i H ∧ Qd H) ∨ (J.go i H ∧ ∃ Nx : Hp → Prop, (∀ H', Nx H' → ∃ m', m' < m ∧ W (i + 1) m' H') ∧ ∀ x H', J.yld i H x H' → g x (wipe σ vs) H' fun σ2 H2 => wipe σ2 vs = wipe σ vs ∧ tt σ2 H2 fun c H3 =>
        if c = true then tk σ2 H3 fun y H4 => tv σ2 H4 fun z H5 => ∃ kvs k b, y = .ref b ∧ H5 b = some (.tup (k.map kV)) ∧ H5 D = some (.dT kvs) ∧ kvs.length < sizeLine ∧ Nx (upd H5 D (.dT (putK kvs k z))) else Nx H3) := by
  refine ⟨fun i m H => i ≤ n ∧ m = n - i ∧ Pv i H, ⟨n, Nat.zero_le _, rfl, h0⟩, fun i m H ⟨hi, e, p⟩ => ?_⟩
  subst e
  have gH := hG i H hi p
  rcases Nat.lt_or_eq_of_le hi with lt | e
  · exact .inr ⟨w.goes i H lt gH, Pv (i + 1), fun H' p' => ⟨n - (i + 1), by omega, lt, rfl, p'⟩, fun x H' y => hs i x H H' lt p (w.yields i H x H' lt gH y)⟩
  · subst e
    exact .inl ⟨w.stops H gH, hd H p⟩
theorem key2_inj {a b : Str × Str} (h : key2 a = key2 b) : a = b := by
  unfold key2 at h
  injection h with h1 h2
  injection h2 with h2 _
  exact Prod.ext (Sum.inr.inj h1) (Sum.inr.inj h2)
theorem key2_mem {d : Str × Str} {es : List (Str × Str)} : key2 d ∈ es.map key2 ↔ d ∈ es :=
  ⟨fun h => by obtain ⟨e, he, q⟩ := List.mem_map.mp h; rw [← key2_inj q]; exact he, fun h => List.mem_map.mpr ⟨d, h, rfl⟩⟩
/-- whether a pair is a key -/
theorem val2 {kvs : List (List Key × V)} {es : List (Str × Str)} (h : kvs.map (·.1) = es.map key2) (d : Str × Str) : (valV kvs (key2 d)).isSome = decide (d ∈ es) := by
  rw [← valV_any]
  by_cases c : d ∈ es
  · rw [decide_eq_true c, List.any_eq_true]
    have : key2 d ∈ kvs.map (·.1) := by
      rw [h]
      exact key2_mem.mpr c
    obtain ⟨p, hp, e⟩ := List.mem_map.mp this
    exact ⟨p, hp, decide_eq_true e⟩
  · rw [decide_eq_false c, Bool.eq_false_iff]
    intro z
    obtain ⟨p, hp, e⟩ := List.any_eq_true.mp z
    refine c (key2_mem.mp ?_)
    rw [← h, ← of_decide_eq_true e]
    exact List.mem_map.mpr ⟨p, hp, rfl⟩
theorem put2_new {kvs : List (List Key × V)} {es : List (Str × Str)} (h : kvs.map (·.1) = es.map key2) {d : Str × Str} (hd : d ∉ es) (v : V) : (putK kvs (key2 d) v).map (·.1) = (es ++ [d]).map key2 := by
  have e := val2 h d
  rw [decide_eq_false hd] at e
  rw [putK_new v (Option.not_isSome_iff_eq_none.mp (by rw [e]; exact Bool.false_ne_true)), List.map_append, List.map_append, h]
  rfl
theorem put2_old {kvs : List (List Key × V)} {es : List (Str × Str)} (h : kvs.map (·.1) = es.map key2) {d : Str × Str} (hd : d ∈ es) (v : V) : (putK kvs (key2 d) v).map (·.1) = es.map key2 := by
  have e := val2 h d
  rw [decide_eq_true hd, ← valV_any] at e
  unfold putK
  rw [if_pos e, List.map_map, ← h]
  refine List.map_congr_left fun p _ => ?_
  show (if p.1 = key2 d then (p.1, v) else p).1 = p.1
  split <;> rfl
theorem len2 {kvs : List (List Key × V)} {es : List (Str × Str)} (h : kvs.map (·.1) = es.map key2) : kvs.length = es.length := by
  have := congrArg List.length h
  rw [List.length_map, List.length_map] at this
  exact this
theorem snoc_nodup {α : Type} {l : List α} {x : α} (h : l.Nodup) (n : x ∉ l) : (l ++ [x]).Nodup := by
  rw [List.nodup_append]
  exact ⟨h, List.nodup_cons.mpr ⟨by simp, List.nodup_nil⟩, fun a ha b hb e => n (by rw [← List.mem_singleton.mp hb, ← e]; exact ha)⟩
end UD
-- US
-- UR
namespace K19
open PySem L2 UW UP UT UD
def topS (i : Nat) : Stmt := PySem.Challenge.pw_unitwants_k19_fits.main.body.getD i (.Pass ⟨0, 0, 0, 0⟩)
abbrev s_next_in : Stmt := topS 6
abbrev N_next_in : List Str := ["waiting", "order", "name", "other"]
theorem sc_next_in : FnScope N_next_in ["waiting", "order"] (defScope s_next_in) := ⟨rfl, rfl, rfl, by decide +kernel, rfl, by decide +kernel, by decide +kernel⟩
abbrev s_free_order : Stmt := topS 7
abbrev N_free_order : List Str := ["shelf", "names", "waiting", "order", "least", "name", "other"]
theorem sc_free_order : FnScope N_free_order ["shelf", "names"] (defScope s_free_order) := ⟨rfl, rfl, rfl, by decide +kernel, rfl, by decide +kernel, by decide +kernel⟩
abbrev s_ring_in : Stmt := topS 8
abbrev N_ring_in : List Str := ["shelf", "stuck", "trail", "name", "other"]
theorem sc_ring_in : FnScope N_ring_in ["shelf", "stuck"] (defScope s_ring_in) := ⟨rfl, rfl, rfl, by decide +kernel, rfl, by decide +kernel, by decide +kernel⟩
abbrev s_knot_in : Stmt := topS 9
abbrev N_knot_in : List Str := ["shelf", "names", "order", "stuck", "name"]
theorem sc_knot_in : FnScope N_knot_in ["shelf", "names"] (defScope s_knot_in) := ⟨rfl, rfl, rfl, by decide +kernel, rfl, by decide +kernel, by decide +kernel⟩
abbrev s_Stand_init : Stmt := inClass (topS 11) 0
abbrev N_Stand_init : List Str := ["self", "wished", "up", "later", "back"]
theorem sc_Stand_init : FnScope N_Stand_init ["self", "wished", "up", "later", "back"] (defScope s_Stand_init) := ⟨rfl, rfl, rfl, by decide +kernel, rfl, by decide +kernel, by decide +kernel⟩
abbrev s_open_in : Stmt := topS 12
abbrev N_open_in : List Str := ["stand", "name"]
theorem sc_open_in : FnScope N_open_in ["stand"] (defScope s_open_in) := ⟨rfl, rfl, rfl, by decide +kernel, rfl, by decide +kernel, by decide +kernel⟩
abbrev s_all_there : Stmt := topS 13
abbrev N_all_there : List Str := ["shelf", "stand", "name"]
theorem sc_all_there : FnScope N_all_there ["shelf", "stand"] (defScope s_all_there) := ⟨rfl, rfl, rfl, by decide +kernel, rfl, by decide +kernel, by decide +kernel⟩
abbrev s_needs_wished : Stmt := topS 14
abbrev N_needs_wished : List Str := ["shelf", "stand", "needed", "name", "other"]
theorem sc_needs_wished : FnScope N_needs_wished ["shelf", "stand"] (defScope s_needs_wished) := ⟨rfl, rfl, rfl, by decide +kernel, rfl, by decide +kernel, by decide +kernel⟩
abbrev s_none_barred : Stmt := topS 15
abbrev N_none_barred : List Str := ["shelf", "stand", "barred", "name", "other"]
theorem sc_none_barred : FnScope N_none_barred ["shelf", "stand"] (defScope s_none_barred) := ⟨rfl, rfl, rfl, by decide +kernel, rfl, by decide +kernel, by decide +kernel⟩
abbrev s_fits : Stmt := topS 16
abbrev N_fits : List Str := ["shelf", "stand", "held"]
theorem sc_fits : FnScope N_fits ["shelf", "stand"] (defScope s_fits) := ⟨rfl, rfl, rfl, by decide +kernel, rfl, by decide +kernel, by decide +kernel⟩
abbrev s_Rule_init : Stmt := inClass (topS 18) 0
abbrev N_Rule_init : List Str := ["self", "first", "times", "top", "burst", "span"]
theorem sc_Rule_init : FnScope N_Rule_init ["self", "first", "times", "top", "burst", "span"] (defScope s_Rule_init) := ⟨rfl, rfl, rfl, by decide +kernel, rfl, by decide +kernel, by decide +kernel⟩
abbrev s_Shelf_init : Stmt := inClass (topS 21) 0
abbrev N_Shelf_init : List Str := ["self", "units", "by_name", "unit"]
theorem sc_Shelf_init : FnScope N_Shelf_init ["self", "units"] (defScope s_Shelf_init) := ⟨rfl, rfl, rfl, by decide +kernel, rfl, by decide +kernel, by decide +kernel⟩
abbrev s_Shelf_names : Stmt := inClass (topS 21) 2
abbrev N_Shelf_names : List Str := ["self"]
theorem sc_Shelf_names : FnScope N_Shelf_names ["self"] (defScope s_Shelf_names) := ⟨rfl, rfl, rfl, by decide +kernel, rfl, by decide +kernel, by decide +kernel⟩
abbrev s_Shelf_has : Stmt := inClass (topS 21) 3
abbrev N_Shelf_has : List Str := ["self", "name"]
theorem sc_Shelf_has : FnScope N_Shelf_has ["self", "name"] (defScope s_Shelf_has) := ⟨rfl, rfl, rfl, by decide +kernel, rfl, by decide +kernel, by decide +kernel⟩
abbrev s_Shelf_unit : Stmt := inClass (topS 21) 4
abbrev N_Shelf_unit : List Str := ["self", "name"]
theorem sc_Shelf_unit : FnScope N_Shelf_unit ["self", "name"] (defScope s_Shelf_unit) := ⟨rfl, rfl, rfl, by decide +kernel, rfl, by decide +kernel, by decide +kernel⟩
abbrev s_Shelf_barred : Stmt := inClass (topS 21) 6
abbrev N_Shelf_barred : List Str := ["self", "name", "bars", "other"]
theorem sc_Shelf_barred : FnScope N_Shelf_barred ["self", "name"] (defScope s_Shelf_barred) := ⟨rfl, rfl, rfl, by decide +kernel, rfl, by decide +kernel, by decide +kernel⟩
abbrev s_Shelf_waited : Stmt := inClass (topS 21) 7
abbrev N_Shelf_waited : List Str := ["self", "name", "unit", "other"]
theorem sc_Shelf_waited : FnScope N_Shelf_waited ["self", "name"] (defScope s_Shelf_waited) := ⟨rfl, rfl, rfl, by decide +kernel, rfl, by decide +kernel, by decide +kernel⟩
abbrev s_Unit_init : Stmt := inClass (topS 23) 0
abbrev N_Unit_init : List Str := ["self", "name", "kind", "needs", "wants", "bars", "after", "opens", "rule"]
theorem sc_Unit_init : FnScope N_Unit_init ["self", "name", "kind", "needs", "wants", "bars", "after", "opens", "rule"] (defScope s_Unit_init) := ⟨rfl, rfl, rfl, by decide +kernel, rfl, by decide +kernel, by decide +kernel⟩
abbrev s_law_bag : Stmt := topS 25
abbrev N_law_bag : List Str := ["_law_script", "_law_at", "_law_cell", "_law_far"]
theorem sc_law_bag : FnScope N_law_bag ["_law_script", "_law_at"] (defScope s_law_bag) := ⟨rfl, rfl, rfl, by decide +kernel, rfl, by decide +kernel, by decide +kernel⟩
abbrev s_law_take : Stmt := topS 26
abbrev N_law_take : List Str := ["_law_bag_here", "_law_size", "_law_digit", "_law_primes", "_law_stage", "_law_basis", "_law_found"]
theorem sc_law_take : FnScope N_law_take ["_law_bag_here", "_law_size"] (defScope s_law_take) := ⟨rfl, rfl, rfl, by decide +kernel, rfl, by decide +kernel, by decide +kernel⟩
abbrev s_law_name : Stmt := topS 27
abbrev N_law_name : List Str := ["_law_bag_here", "_law_letters", "_law_size", "_law_spot"]
theorem sc_law_name : FnScope N_law_name ["_law_bag_here"] (defScope s_law_name) := ⟨rfl, rfl, rfl, by decide +kernel, rfl, by decide +kernel, by decide +kernel⟩
abbrev s_law_names : Stmt := topS 28
abbrev N_law_names : List Str := ["_law_bag_here", "_law_size", "_law_found", "_law_spot", "_law_word", "_law_one"]
theorem sc_law_names : FnScope N_law_names ["_law_bag_here", "_law_size"] (defScope s_law_names) := ⟨rfl, rfl, rfl, by decide +kernel, rfl, by decide +kernel, by decide +kernel⟩
abbrev s_law_rule_parts : Stmt := topS 29
abbrev N_law_rule_parts : List Str := ["_law_bag_here", "_law_some_here"]
theorem sc_law_rule_parts : FnScope N_law_rule_parts ["_law_bag_here"] (defScope s_law_rule_parts) := ⟨rfl, rfl, rfl, by decide +kernel, rfl, by decide +kernel, by decide +kernel⟩
abbrev s_law_rule : Stmt := topS 30
abbrev N_law_rule : List Str := ["_law_five"]
theorem sc_law_rule : FnScope N_law_rule ["_law_five"] (defScope s_law_rule) := ⟨rfl, rfl, rfl, by decide +kernel, rfl, by decide +kernel, by decide +kernel⟩
abbrev s_law_some : Stmt := topS 31
abbrev N_law_some : List Str := ["_law_bag_here", "_law_pool", "_law_most", "_law_left", "_law_found", "_law_turn"]
theorem sc_law_some : FnScope N_law_some ["_law_bag_here", "_law_pool", "_law_most"] (defScope s_law_some) := ⟨rfl, rfl, rfl, by decide +kernel, rfl, by decide +kernel, by decide +kernel⟩
abbrev s_law_facts : Stmt := topS 32
abbrev N_law_facts : List Str := ["_law_bag_here", "_law_most", "_law_named", "_law_strange", "_law_loose", "_law_found", "_law_word", "_law_pool", "_law_wide", "_law_musts", "_law_likes", "_law_foes", "_law_elders", "_law_sort", "_law_goal", "_law_five", "_law_one"]
theorem sc_law_facts : FnScope N_law_facts ["_law_bag_here", "_law_most"] (defScope s_law_facts) := ⟨rfl, rfl, rfl, by decide +kernel, rfl, by decide +kernel, by decide +kernel⟩
abbrev s_law_unit : Stmt := topS 33
abbrev N_law_unit : List Str := ["_law_word", "_law_facts_here", "_law_sort", "_law_musts", "_law_likes", "_law_foes", "_law_elders", "_law_goal", "_law_five", "_law_way_on"]
theorem sc_law_unit : FnScope N_law_unit ["_law_word", "_law_facts_here"] (defScope s_law_unit) := ⟨rfl, rfl, rfl, by decide +kernel, rfl, by decide +kernel, by decide +kernel⟩
abbrev s_law_units : Stmt := topS 34
abbrev N_law_units : List Str := ["_law_facts_here", "_law_word"]
theorem sc_law_units : FnScope N_law_units ["_law_facts_here"] (defScope s_law_units) := ⟨rfl, rfl, rfl, by decide +kernel, rfl, by decide +kernel, by decide +kernel⟩
abbrev s_law_needing : Stmt := topS 35
abbrev N_law_needing : List Str := ["_law_facts_here", "_law_word", "_law_one"]
theorem sc_law_needing : FnScope N_law_needing ["_law_facts_here", "_law_word"] (defScope s_law_needing) := ⟨rfl, rfl, rfl, by decide +kernel, rfl, by decide +kernel, by decide +kernel⟩
abbrev s_law_barred : Stmt := topS 36
abbrev N_law_barred : List Str := ["_law_facts_here", "_law_word", "_law_one"]
theorem sc_law_barred : FnScope N_law_barred ["_law_facts_here", "_law_word"] (defScope s_law_barred) := ⟨rfl, rfl, rfl, by decide +kernel, rfl, by decide +kernel, by decide +kernel⟩
abbrev s_law_next : Stmt := topS 37
abbrev N_law_next : List Str := ["_law_facts_here", "_law_demand", "_law_word", "_law_way", "_law_found", "_law_one"]
theorem sc_law_next : FnScope N_law_next ["_law_facts_here", "_law_demand"] (defScope s_law_next) := ⟨rfl, rfl, rfl, by decide +kernel, rfl, by decide +kernel, by decide +kernel⟩
abbrev s_law_followed : Stmt := topS 38
abbrev N_law_followed : List Str := ["_law_facts_here", "_law_demands", "_law_found", "_law_waiting", "_law_demand"]
theorem sc_law_followed : FnScope N_law_followed ["_law_facts_here", "_law_demands"] (defScope s_law_followed) := ⟨rfl, rfl, rfl, by decide +kernel, rfl, by decide +kernel, by decide +kernel⟩
abbrev s_law_lacks : Stmt := topS 39
abbrev N_law_lacks : List Str := ["_law_facts_here", "_law_demands", "_law_word", "_law_way", "_law_one"]
theorem sc_law_lacks : FnScope N_law_lacks ["_law_facts_here", "_law_demands"] (defScope s_law_lacks) := ⟨rfl, rfl, rfl, by decide +kernel, rfl, by decide +kernel, by decide +kernel⟩
abbrev s_law_clash : Stmt := topS 40
abbrev N_law_clash : List Str := ["_law_demands", "_law_both", "_law_word", "_law_way"]
theorem sc_law_clash : FnScope N_law_clash ["_law_demands"] (defScope s_law_clash) := ⟨rfl, rfl, rfl, by decide +kernel, rfl, by decide +kernel, by decide +kernel⟩
abbrev s_law_ways : Stmt := topS 41
abbrev N_law_ways : List Str := ["_law_demands", "_law_way", "_law_word", "_law_other"]
theorem sc_law_ways : FnScope N_law_ways ["_law_demands", "_law_way"] (defScope s_law_ways) := ⟨rfl, rfl, rfl, by decide +kernel, rfl, by decide +kernel, by decide +kernel⟩
abbrev s_law_waited : Stmt := topS 42
abbrev N_law_waited : List Str := ["_law_facts_here", "_law_word", "_law_named", "_law_one"]
theorem sc_law_waited : FnScope N_law_waited ["_law_facts_here", "_law_word"] (defScope s_law_waited) := ⟨rfl, rfl, rfl, by decide +kernel, rfl, by decide +kernel, by decide +kernel⟩
abbrev s_law_knotted : Stmt := topS 43
abbrev N_law_knotted : List Str := ["_law_facts_here", "_law_some_here", "_law_left", "_law_turn", "_law_word", "_law_one"]
theorem sc_law_knotted : FnScope N_law_knotted ["_law_facts_here", "_law_some_here"] (defScope s_law_knotted) := ⟨rfl, rfl, rfl, by decide +kernel, rfl, by decide +kernel, by decide +kernel⟩
abbrev s_law_stand_drawn : Stmt := topS 44
abbrev N_law_stand_drawn : List Str := ["_law_bag_here", "_law_facts_here", "_law_hoped", "_law_stood", "_law_owed", "_law_lost", "_law_words", "_law_turn", "_law_word", "_law_demands", "_law_ons", "_law_offs", "_law_more", "_law_risen", "_law_shut", "_law_fallen", "_law_down", "_law_ring", "_law_gone", "_law_one"]
theorem sc_law_stand_drawn : FnScope N_law_stand_drawn ["_law_bag_here", "_law_facts_here"] (defScope s_law_stand_drawn) := ⟨rfl, rfl, rfl, by decide +kernel, rfl, by decide +kernel, by decide +kernel⟩
abbrev s_law_due : Stmt := topS 45
abbrev N_law_due : List Str := ["_law_facts_here", "_law_rows", "_law_hoped", "_law_stood", "_law_owed", "_law_lost", "_law_every", "_law_word", "_law_one"]
theorem sc_law_due : FnScope N_law_due ["_law_facts_here", "_law_rows"] (defScope s_law_due) := ⟨rfl, rfl, rfl, by decide +kernel, rfl, by decide +kernel, by decide +kernel⟩
abbrev s_law_bent : Stmt := topS 46
abbrev N_law_bent : List Str := ["_law_bag_here", "_law_facts_here", "_law_rows", "_law_found", "_law_words", "_law_way", "_law_at", "_law_other", "_law_word", "_law_row", "_law_one"]
theorem sc_law_bent : FnScope N_law_bent ["_law_bag_here", "_law_facts_here", "_law_rows"] (defScope s_law_bent) := ⟨rfl, rfl, rfl, by decide +kernel, rfl, by decide +kernel, by decide +kernel⟩
abbrev s_law_right : Stmt := topS 47
abbrev N_law_right : List Str := ["_law_facts_here", "_law_made", "_law_rows", "_law_one", "_law_told"]
theorem sc_law_right : FnScope N_law_right ["_law_facts_here", "_law_made", "_law_rows"] (defScope s_law_right) := ⟨rfl, rfl, rfl, by decide +kernel, rfl, by decide +kernel, by decide +kernel⟩
abbrev s_law : Stmt := topS 48
abbrev N_law : List Str := ["_law_script", "_law_k", "_law_bag_here", "_law_facts_here", "_law_made", "_law_rows", "_law_turn", "_law_words", "_law_some_here"]
theorem sc_law : FnScope N_law ["_law_script"] (defScope s_law) := ⟨rfl, rfl, rfl, by decide +kernel, rfl, by decide +kernel, by decide +kernel⟩
structure Txt (K : PySem.W.Frag) (mg : Str → Option Value) where
  d_next_in : FuncData
  F_next_in : FunD K "next_in" "next_in" (defArgs s_next_in) (defBody s_next_in) (defScope s_next_in) [] [] (He.fAd K ("next_in", none)) d_next_in
  m_next_in : mg "next_in" = some (.ref (He.ga K "next_in"))
  b_next_in : Binds K d_next_in ["waiting", "order"] []
  d_free_order : FuncData
  F_free_order : FunD K "free_order" "free_order" (defArgs s_free_order) (defBody s_free_order) (defScope s_free_order) [] [] (He.fAd K ("free_order", none)) d_free_order
  m_free_order : mg "free_order" = some (.ref (He.ga K "free_order"))
  b_free_order : Binds K d_free_order ["shelf", "names"] []
  d_ring_in : FuncData
  F_ring_in : FunD K "ring_in" "ring_in" (defArgs s_ring_in) (defBody s_ring_in) (defScope s_ring_in) [] [] (He.fAd K ("ring_in", none)) d_ring_in
  m_ring_in : mg "ring_in" = some (.ref (He.ga K "ring_in"))
  b_ring_in : Binds K d_ring_in ["shelf", "stuck"] []
  d_knot_in : FuncData
  F_knot_in : FunD K "knot_in" "knot_in" (defArgs s_knot_in) (defBody s_knot_in) (defScope s_knot_in) [] [] (He.fAd K ("knot_in", none)) d_knot_in
  m_knot_in : mg "knot_in" = some (.ref (He.ga K "knot_in"))
  b_knot_in : Binds K d_knot_in ["shelf", "names"] []
  d_Stand_init : FuncData
  F_Stand_init : FunD K "__init__" "Stand.__init__" (defArgs s_Stand_init) (defBody s_Stand_init) (defScope s_Stand_init) [] [("wished", V.ref (UO.kwAdr K ("Stand", some "__init__") "wished")), ("up", V.ref (UO.kwAdr K ("Stand", some "__init__") "up")), ("later", V.ref (UO.kwAdr K ("Stand", some "__init__") "later")), ("back", V.ref (UO.kwAdr K ("Stand", some "__init__") "back"))] (He.fAd K ("Stand", some "__init__")) d_Stand_init
  d_open_in : FuncData
  F_open_in : FunD K "open_in" "open_in" (defArgs s_open_in) (defBody s_open_in) (defScope s_open_in) [] [] (He.fAd K ("open_in", none)) d_open_in
  m_open_in : mg "open_in" = some (.ref (He.ga K "open_in"))
  b_open_in : Binds K d_open_in ["stand"] []
  d_all_there : FuncData
  F_all_there : FunD K "all_there" "all_there" (defArgs s_all_there) (defBody s_all_there) (defScope s_all_there) [] [] (He.fAd K ("all_there", none)) d_all_there
  m_all_there : mg "all_there" = some (.ref (He.ga K "all_there"))
  b_all_there : Binds K d_all_there ["shelf", "stand"] []
  d_needs_wished : FuncData
  F_needs_wished : FunD K "needs_wished" "needs_wished" (defArgs s_needs_wished) (defBody s_needs_wished) (defScope s_needs_wished) [] [] (He.fAd K ("needs_wished", none)) d_needs_wished
  m_needs_wished : mg "needs_wished" = some (.ref (He.ga K "needs_wished"))
  b_needs_wished : Binds K d_needs_wished ["shelf", "stand"] []
  d_none_barred : FuncData
  F_none_barred : FunD K "none_barred" "none_barred" (defArgs s_none_barred) (defBody s_none_barred) (defScope s_none_barred) [] [] (He.fAd K ("none_barred", none)) d_none_barred
  m_none_barred : mg "none_barred" = some (.ref (He.ga K "none_barred"))
  b_none_barred : Binds K d_none_barred ["shelf", "stand"] []
  d_fits : FuncData
  F_fits : FunD K "fits" "fits" (defArgs s_fits) (defBody s_fits) (defScope s_fits) [] [] (He.fAd K ("fits", none)) d_fits
  m_fits : mg "fits" = some (.ref (He.ga K "fits"))
  b_fits : Binds K d_fits ["shelf", "stand"] []
  d_Rule_init : FuncData
  F_Rule_init : FunD K "__init__" "Rule.__init__" (defArgs s_Rule_init) (defBody s_Rule_init) (defScope s_Rule_init) [] [("first", V.int 1), ("times", V.int 2), ("top", V.int 64), ("burst", V.int 5), ("span", V.int 100)] (He.fAd K ("Rule", some "__init__")) d_Rule_init
  d_Shelf_init : FuncData
  F_Shelf_init : FunD K "__init__" "Shelf.__init__" (defArgs s_Shelf_init) (defBody s_Shelf_init) (defScope s_Shelf_init) [V.ref (He.dflAt ("Shelf", some "__init__") 0 K)] [] (He.fAd K ("Shelf", some "__init__")) d_Shelf_init
  b2_Shelf_init : Binds K d_Shelf_init ["self", "units"] []
  b1_Shelf_init : ∃ ds, Vals [V.ref (He.dflAt ("Shelf", some "__init__") 0 K)] ds ∧ Binds K d_Shelf_init ["self", "units"] ds
  e1_Shelf_init : ∀ H, SqT K H (He.dflAt ("Shelf", some "__init__") 0 K) []
  d_Shelf_names : FuncData
  F_Shelf_names : FunD K "names" "Shelf.names" (defArgs s_Shelf_names) (defBody s_Shelf_names) (defScope s_Shelf_names) [] [] (He.fAd K ("Shelf", some "names")) d_Shelf_names
  b_Shelf_names : Binds K d_Shelf_names ["self"] []
  me_Shelf_names : Meth K (He.ga K "Shelf") "names" (He.fAd K ("Shelf", some "names"))
  d_Shelf_has : FuncData
  F_Shelf_has : FunD K "has" "Shelf.has" (defArgs s_Shelf_has) (defBody s_Shelf_has) (defScope s_Shelf_has) [] [] (He.fAd K ("Shelf", some "has")) d_Shelf_has
  b_Shelf_has : Binds K d_Shelf_has ["self", "name"] []
  me_Shelf_has : Meth K (He.ga K "Shelf") "has" (He.fAd K ("Shelf", some "has"))
  d_Shelf_unit : FuncData
  F_Shelf_unit : FunD K "unit" "Shelf.unit" (defArgs s_Shelf_unit) (defBody s_Shelf_unit) (defScope s_Shelf_unit) [] [] (He.fAd K ("Shelf", some "unit")) d_Shelf_unit
  b_Shelf_unit : Binds K d_Shelf_unit ["self", "name"] []
  me_Shelf_unit : Meth K (He.ga K "Shelf") "unit" (He.fAd K ("Shelf", some "unit"))
  d_Shelf_barred : FuncData
  F_Shelf_barred : FunD K "barred" "Shelf.barred" (defArgs s_Shelf_barred) (defBody s_Shelf_barred) (defScope s_Shelf_barred) [] [] (He.fAd K ("Shelf", some "barred")) d_Shelf_barred
  b_Shelf_barred : Binds K d_Shelf_barred ["self", "name"] []
  me_Shelf_barred : Meth K (He.ga K "Shelf") "barred" (He.fAd K ("Shelf", some "barred"))
  d_Shelf_waited : FuncData
  F_Shelf_waited : FunD K "waited" "Shelf.waited" (defArgs s_Shelf_waited) (defBody s_Shelf_waited) (defScope s_Shelf_waited) [] [] (He.fAd K ("Shelf", some "waited")) d_Shelf_waited
  b_Shelf_waited : Binds K d_Shelf_waited ["self", "name"] []
  me_Shelf_waited : Meth K (He.ga K "Shelf") "waited" (He.fAd K ("Shelf", some "waited"))
  d_Unit_init : FuncData
  F_Unit_init : FunD K "__init__" "Unit.__init__" (defArgs s_Unit_init) (defBody s_Unit_init) (defScope s_Unit_init) [] [("kind", V.str "work"), ("needs", V.ref (UO.kwAdr K ("Unit", some "__init__") "needs")), ("wants", V.ref (UO.kwAdr K ("Unit", some "__init__") "wants")), ("bars", V.ref (UO.kwAdr K ("Unit", some "__init__") "bars")), ("after", V.ref (UO.kwAdr K ("Unit", some "__init__") "after")), ("opens", V.non), ("rule", V.non)] (He.fAd K ("Unit", some "__init__")) d_Unit_init
  d_law_bag : FuncData
  F_law_bag : FunD K "_law_bag" "_law_bag" (defArgs s_law_bag) (defBody s_law_bag) (defScope s_law_bag) [] [] (He.fAd K ("_law_bag", none)) d_law_bag
  m_law_bag : mg "_law_bag" = some (.ref (He.ga K "_law_bag"))
  b_law_bag : Binds K d_law_bag ["_law_script", "_law_at"] []
  d_law_take : FuncData
  F_law_take : FunD K "_law_take" "_law_take" (defArgs s_law_take) (defBody s_law_take) (defScope s_law_take) [] [] (He.fAd K ("_law_take", none)) d_law_take
  m_law_take : mg "_law_take" = some (.ref (He.ga K "_law_take"))
  b_law_take : Binds K d_law_take ["_law_bag_here", "_law_size"] []
  d_law_name : FuncData
  F_law_name : FunD K "_law_name" "_law_name" (defArgs s_law_name) (defBody s_law_name) (defScope s_law_name) [] [] (He.fAd K ("_law_name", none)) d_law_name
  m_law_name : mg "_law_name" = some (.ref (He.ga K "_law_name"))
  b_law_name : Binds K d_law_name ["_law_bag_here"] []
  d_law_names : FuncData
  F_law_names : FunD K "_law_names" "_law_names" (defArgs s_law_names) (defBody s_law_names) (defScope s_law_names) [] [] (He.fAd K ("_law_names", none)) d_law_names
  m_law_names : mg "_law_names" = some (.ref (He.ga K "_law_names"))
  b_law_names : Binds K d_law_names ["_law_bag_here", "_law_size"] []
  d_law_rule_parts : FuncData
  F_law_rule_parts : FunD K "_law_rule_parts" "_law_rule_parts" (defArgs s_law_rule_parts) (defBody s_law_rule_parts) (defScope s_law_rule_parts) [] [] (He.fAd K ("_law_rule_parts", none)) d_law_rule_parts
  m_law_rule_parts : mg "_law_rule_parts" = some (.ref (He.ga K "_law_rule_parts"))
  b_law_rule_parts : Binds K d_law_rule_parts ["_law_bag_here"] []
  d_law_rule : FuncData
  F_law_rule : FunD K "_law_rule" "_law_rule" (defArgs s_law_rule) (defBody s_law_rule) (defScope s_law_rule) [] [] (He.fAd K ("_law_rule", none)) d_law_rule
  m_law_rule : mg "_law_rule" = some (.ref (He.ga K "_law_rule"))
  b_law_rule : Binds K d_law_rule ["_law_five"] []
  d_law_some : FuncData
  F_law_some : FunD K "_law_some" "_law_some" (defArgs s_law_some) (defBody s_law_some) (defScope s_law_some) [] [] (He.fAd K ("_law_some", none)) d_law_some
  m_law_some : mg "_law_some" = some (.ref (He.ga K "_law_some"))
  b_law_some : Binds K d_law_some ["_law_bag_here", "_law_pool", "_law_most"] []
  d_law_facts : FuncData
  F_law_facts : FunD K "_law_facts" "_law_facts" (defArgs s_law_facts) (defBody s_law_facts) (defScope s_law_facts) [] [] (He.fAd K ("_law_facts", none)) d_law_facts
  m_law_facts : mg "_law_facts" = some (.ref (He.ga K "_law_facts"))
  b_law_facts : Binds K d_law_facts ["_law_bag_here", "_law_most"] []
  d_law_unit : FuncData
  F_law_unit : FunD K "_law_unit" "_law_unit" (defArgs s_law_unit) (defBody s_law_unit) (defScope s_law_unit) [] [] (He.fAd K ("_law_unit", none)) d_law_unit
  m_law_unit : mg "_law_unit" = some (.ref (He.ga K "_law_unit"))
  b_law_unit : Binds K d_law_unit ["_law_word", "_law_facts_here"] []
  d_law_units : FuncData
  F_law_units : FunD K "_law_units" "_law_units" (defArgs s_law_units) (defBody s_law_units) (defScope s_law_units) [] [] (He.fAd K ("_law_units", none)) d_law_units
  m_law_units : mg "_law_units" = some (.ref (He.ga K "_law_units"))
  b_law_units : Binds K d_law_units ["_law_facts_here"] []
  d_law_needing : FuncData
  F_law_needing : FunD K "_law_needing" "_law_needing" (defArgs s_law_needing) (defBody s_law_needing) (defScope s_law_needing) [] [] (He.fAd K ("_law_needing", none)) d_law_needing
  m_law_needing : mg "_law_needing" = some (.ref (He.ga K "_law_needing"))
  b_law_needing : Binds K d_law_needing ["_law_facts_here", "_law_word"] []
  d_law_barred : FuncData
  F_law_barred : FunD K "_law_barred" "_law_barred" (defArgs s_law_barred) (defBody s_law_barred) (defScope s_law_barred) [] [] (He.fAd K ("_law_barred", none)) d_law_barred
  m_law_barred : mg "_law_barred" = some (.ref (He.ga K "_law_barred"))
  b_law_barred : Binds K d_law_barred ["_law_facts_here", "_law_word"] []
  d_law_next : FuncData
  F_law_next : FunD K "_law_next" "_law_next" (defArgs s_law_next) (defBody s_law_next) (defScope s_law_next) [] [] (He.fAd K ("_law_next", none)) d_law_next
  m_law_next : mg "_law_next" = some (.ref (He.ga K "_law_next"))
  b_law_next : Binds K d_law_next ["_law_facts_here", "_law_demand"] []
  d_law_followed : FuncData
  F_law_followed : FunD K "_law_followed" "_law_followed" (defArgs s_law_followed) (defBody s_law_followed) (defScope s_law_followed) [] [] (He.fAd K ("_law_followed", none)) d_law_followed
  m_law_followed : mg "_law_followed" = some (.ref (He.ga K "_law_followed"))
  b_law_followed : Binds K d_law_followed ["_law_facts_here", "_law_demands"] []
  d_law_lacks : FuncData
  F_law_lacks : FunD K "_law_lacks" "_law_lacks" (defArgs s_law_lacks) (defBody s_law_lacks) (defScope s_law_lacks) [] [] (He.fAd K ("_law_lacks", none)) d_law_lacks
  m_law_lacks : mg "_law_lacks" = some (.ref (He.ga K "_law_lacks"))
  b_law_lacks : Binds K d_law_lacks ["_law_facts_here", "_law_demands"] []
  d_law_clash : FuncData
  F_law_clash : FunD K "_law_clash" "_law_clash" (defArgs s_law_clash) (defBody s_law_clash) (defScope s_law_clash) [] [] (He.fAd K ("_law_clash", none)) d_law_clash
  m_law_clash : mg "_law_clash" = some (.ref (He.ga K "_law_clash"))
  b_law_clash : Binds K d_law_clash ["_law_demands"] []
  d_law_ways : FuncData
  F_law_ways : FunD K "_law_ways" "_law_ways" (defArgs s_law_ways) (defBody s_law_ways) (defScope s_law_ways) [] [] (He.fAd K ("_law_ways", none)) d_law_ways
  m_law_ways : mg "_law_ways" = some (.ref (He.ga K "_law_ways"))
  b_law_ways : Binds K d_law_ways ["_law_demands", "_law_way"] []
  d_law_waited : FuncData
  F_law_waited : FunD K "_law_waited" "_law_waited" (defArgs s_law_waited) (defBody s_law_waited) (defScope s_law_waited) [] [] (He.fAd K ("_law_waited", none)) d_law_waited
  m_law_waited : mg "_law_waited" = some (.ref (He.ga K "_law_waited"))
  b_law_waited : Binds K d_law_waited ["_law_facts_here", "_law_word"] []
  d_law_knotted : FuncData
  F_law_knotted : FunD K "_law_knotted" "_law_knotted" (defArgs s_law_knotted) (defBody s_law_knotted) (defScope s_law_knotted) [] [] (He.fAd K ("_law_knotted", none)) d_law_knotted
  m_law_knotted : mg "_law_knotted" = some (.ref (He.ga K "_law_knotted"))
  b_law_knotted : Binds K d_law_knotted ["_law_facts_here", "_law_some_here"] []
  d_law_stand_drawn : FuncData
  F_law_stand_drawn : FunD K "_law_stand_drawn" "_law_stand_drawn" (defArgs s_law_stand_drawn) (defBody s_law_stand_drawn) (defScope s_law_stand_drawn) [] [] (He.fAd K ("_law_stand_drawn", none)) d_law_stand_drawn
  m_law_stand_drawn : mg "_law_stand_drawn" = some (.ref (He.ga K "_law_stand_drawn"))
  b_law_stand_drawn : Binds K d_law_stand_drawn ["_law_bag_here", "_law_facts_here"] []
  d_law_due : FuncData
  F_law_due : FunD K "_law_due" "_law_due" (defArgs s_law_due) (defBody s_law_due) (defScope s_law_due) [] [] (He.fAd K ("_law_due", none)) d_law_due
  m_law_due : mg "_law_due" = some (.ref (He.ga K "_law_due"))
  b_law_due : Binds K d_law_due ["_law_facts_here", "_law_rows"] []
  d_law_bent : FuncData
  F_law_bent : FunD K "_law_bent" "_law_bent" (defArgs s_law_bent) (defBody s_law_bent) (defScope s_law_bent) [] [] (He.fAd K ("_law_bent", none)) d_law_bent
  m_law_bent : mg "_law_bent" = some (.ref (He.ga K "_law_bent"))
  b_law_bent : Binds K d_law_bent ["_law_bag_here", "_law_facts_here", "_law_rows"] []
  d_law_right : FuncData
  F_law_right : FunD K "_law_right" "_law_right" (defArgs s_law_right) (defBody s_law_right) (defScope s_law_right) [] [] (He.fAd K ("_law_right", none)) d_law_right
  m_law_right : mg "_law_right" = some (.ref (He.ga K "_law_right"))
  b_law_right : Binds K d_law_right ["_law_facts_here", "_law_made", "_law_rows"] []
  d_law : FuncData
  F_law : FunD K "law" "law" (defArgs s_law) (defBody s_law) (defScope s_law) [] [] (He.fAd K ("law", none)) d_law
  m_law : mg "law" = some (.ref (He.ga K "law"))
  b_law : Binds K d_law ["_law_script"] []
  m_Stand : mg "Stand" = some (.ref (He.ga K "Stand"))
  cl_Stand : Cls K (He.ga K "Stand")
  mk_Stand : Mk K (He.ga K "Stand") (He.fAd K ("Stand", some "__init__"))
  na_Stand_wished : NoAttr K (He.ga K "Stand") "wished"
  na_Stand_up : NoAttr K (He.ga K "Stand") "up"
  na_Stand_later : NoAttr K (He.ga K "Stand") "later"
  na_Stand_back : NoAttr K (He.ga K "Stand") "back"
  m_Rule : mg "Rule" = some (.ref (He.ga K "Rule"))
  cl_Rule : Cls K (He.ga K "Rule")
  mk_Rule : Mk K (He.ga K "Rule") (He.fAd K ("Rule", some "__init__"))
  na_Rule_first : NoAttr K (He.ga K "Rule") "first"
  na_Rule_times : NoAttr K (He.ga K "Rule") "times"
  na_Rule_top : NoAttr K (He.ga K "Rule") "top"
  na_Rule_burst : NoAttr K (He.ga K "Rule") "burst"
  na_Rule_span : NoAttr K (He.ga K "Rule") "span"
  m_Shelf : mg "Shelf" = some (.ref (He.ga K "Shelf"))
  cl_Shelf : Cls K (He.ga K "Shelf")
  mk_Shelf : Mk K (He.ga K "Shelf") (He.fAd K ("Shelf", some "__init__"))
  na_Shelf_by_name : NoAttr K (He.ga K "Shelf") "by_name"
  m_Unit : mg "Unit" = some (.ref (He.ga K "Unit"))
  cl_Unit : Cls K (He.ga K "Unit")
  mk_Unit : Mk K (He.ga K "Unit") (He.fAd K ("Unit", some "__init__"))
  na_Unit_name : NoAttr K (He.ga K "Unit") "name"
  na_Unit_kind : NoAttr K (He.ga K "Unit") "kind"
  na_Unit_needs : NoAttr K (He.ga K "Unit") "needs"
  na_Unit_wants : NoAttr K (He.ga K "Unit") "wants"
  na_Unit_bars : NoAttr K (He.ga K "Unit") "bars"
  na_Unit_after : NoAttr K (He.ga K "Unit") "after"
  na_Unit_opens : NoAttr K (He.ga K "Unit") "opens"
  na_Unit_rule : NoAttr K (He.ga K "Unit") "rule"
  e0_Stand_init_wished : ∀ H, SqT K H (UO.kwAdr K ("Stand", some "__init__") "wished") []
  e0_Stand_init_up : ∀ H, SqT K H (UO.kwAdr K ("Stand", some "__init__") "up") []
  e0_Stand_init_later : ∀ H, SqT K H (UO.kwAdr K ("Stand", some "__init__") "later") []
  e0_Stand_init_back : ∀ H, SqT K H (UO.kwAdr K ("Stand", some "__init__") "back") []
  e0_Unit_init_needs : ∀ H, SqT K H (UO.kwAdr K ("Unit", some "__init__") "needs") []
  e0_Unit_init_wants : ∀ H, SqT K H (UO.kwAdr K ("Unit", some "__init__") "wants") []
  e0_Unit_init_bars : ∀ H, SqT K H (UO.kwAdr K ("Unit", some "__init__") "bars") []
  e0_Unit_init_after : ∀ H, SqT K H (UO.kwAdr K ("Unit", some "__init__") "after") []
  ix_Unit : UO.InsX K (He.ga K "Unit")
  ix_Rule : UO.InsX K (He.ga K "Rule")
  ix_Stand : UO.InsX K (He.ga K "Stand")
  px_Unit_Rule : UO.PairX K (He.ga K "Unit") (He.ga K "Rule")
  px_Unit_Stand : UO.PairX K (He.ga K "Unit") (He.ga K "Stand")
  px_Rule_Unit : UO.PairX K (He.ga K "Rule") (He.ga K "Unit")
  px_Rule_Stand : UO.PairX K (He.ga K "Rule") (He.ga K "Stand")
  px_Stand_Unit : UO.PairX K (He.ga K "Stand") (He.ga K "Unit")
  px_Stand_Rule : UO.PairX K (He.ga K "Stand") (He.ga K "Rule")
  c_MOST : ∃ t, mg "MOST" = some (.int 16 t)
  n_sorted : mg "sorted" = none
  n_all : mg "all" = none
  n_len : mg "len" = none
  n_any : mg "any" = none
  n_set : mg "set" = none
  n_isinstance : mg "isinstance" = none
  n_str : mg "str" = none
  n_abs : mg "abs" = none
  n_int : mg "int" = none
  n_range : mg "range" = none
  n_tuple : mg "tuple" = none
  n_list : mg "list" = none
  n_min : mg "min" = none
  n_bool : mg "bool" = none
  n_max : mg "max" = none
  kb_Rule_init_1_first_times_top_burst_span : ∃ gg, KBn K d_Rule_init ["self", "first", "times", "top", "burst", "span"] 1 ["first", "times", "top", "burst", "span"] gg (fun us ws => us ++ (ws.drop 0).take 1 ++ (ws.drop 1).take 1 ++ (ws.drop 2).take 1 ++ (ws.drop 3).take 1 ++ (ws.drop 4).take 1)
  kb_Unit_init_2_kind_needs_wants_bars_after_opens_rule : ∃ gg, KBn K d_Unit_init ["self", "name", "kind", "needs", "wants", "bars", "after", "opens", "rule"] 2 ["kind", "needs", "wants", "bars", "after", "opens", "rule"] gg (fun us ws => us ++ (ws.drop 0).take 1 ++ (ws.drop 1).take 1 ++ (ws.drop 2).take 1 ++ (ws.drop 3).take 1 ++ (ws.drop 4).take 1 ++ (ws.drop 5).take 1 ++ (ws.drop 6).take 1)
  kb_Stand_init_1_wished_up_later_back : ∃ gg, KBn K d_Stand_init ["self", "wished", "up", "later", "back"] 1 ["wished", "up", "later", "back"] gg (fun us ws => us ++ (ws.drop 0).take 1 ++ (ws.drop 1).take 1 ++ (ws.drop 2).take 1 ++ (ws.drop 3).take 1)
  kb_fits_0_stand_shelf : ∃ gg, KBn K d_fits ["shelf", "stand"] 0 ["stand", "shelf"] gg (fun us ws => us ++ (ws.drop 1).take 1 ++ (ws.drop 0).take 1)
  kb_Stand_init_1_none : ∃ gg, KBn K d_Stand_init ["self", "wished", "up", "later", "back"] 1 [] gg (fun us ws => us ++ ([V.ref (UO.kwAdr K ("Stand", some "__init__") "wished"), V.ref (UO.kwAdr K ("Stand", some "__init__") "up"), V.ref (UO.kwAdr K ("Stand", some "__init__") "later"), V.ref (UO.kwAdr K ("Stand", some "__init__") "back")].drop 0).take 1 ++ ([V.ref (UO.kwAdr K ("Stand", some "__init__") "wished"), V.ref (UO.kwAdr K ("Stand", some "__init__") "up"), V.ref (UO.kwAdr K ("Stand", some "__init__") "later"), V.ref (UO.kwAdr K ("Stand", some "__init__") "back")].drop 1).take 1 ++ ([V.ref (UO.kwAdr K ("Stand", some "__init__") "wished"), V.ref (UO.kwAdr K ("Stand", some "__init__") "up"), V.ref (UO.kwAdr K ("Stand", some "__init__") "later"), V.ref (UO.kwAdr K ("Stand", some "__init__") "back")].drop 2).take 1 ++ ([V.ref (UO.kwAdr K ("Stand", some "__init__") "wished"), V.ref (UO.kwAdr K ("Stand", some "__init__") "up"), V.ref (UO.kwAdr K ("Stand", some "__init__") "later"), V.ref (UO.kwAdr K ("Stand", some "__init__") "back")].drop 3).take 1)
section
variable {P : Program} {w : World} {K : PySem.W.Frag} {mg : Str → Option Value} {base : Heap}
/-! ### the bag and a draw -/
def sp_law_bag (K : PySem.W.Frag) : Sp := fun vs H Q _ => ∃ (a : Addr) (ns : List Int) (k : Nat), vs = [.ref a, .int k] ∧ SqL K H a (ns.map V.int) ∧ k ≤ 1000 ∧
  ∀ p H', H p = none → Same H H' → Bag 0 H' p → Q (.ref p) H'
theorem ok_law_bag (T : Txt K mg) : FnOk P w K mg base CX0 1 (He.fAd K ("_law_bag", none)) T.d_law_bag ["_law_script", "_law_at"] (sp_law_bag K) := by
  refine T.F_law_bag.ok sc_law_bag (fun vs H Q E h => ?_) (fun cdv A outer s H vs Q E hr h => ?_)
  · obtain ⟨a, ns, k, rfl, _⟩ := h
    rfl
  · obtain ⟨a, ns, k, rfl, hS, hk, q⟩ := h
    refine ⟨_, PSs.nox (pss_cons (ps_set (i := 2) sc_law_bag.nd rfl (Or.inl rfl) (pe_op op_add (pe_op op_add (pe_op op_mul (pe_op op_mul pe_int (pv 1)) (pv 1)) (pe_op op_mul pe_int (pv 1))) pe_int))
      (pss_mid (ps_if (pt_cmpR op_lt (pv 1) (pe_callB (id := "len")  call_len_seq (by rfl) T.n_len (by decide +kernel) (pa_cons (pv 0) pa_nil)) (nomark _))
      (pss_one (ps_set (i := 2) sc_law_bag.nd rfl (Or.inl rfl) (pe_ix ix_list (pv 0) (pv 1) (fun _ _ => rfl))))
      pss_nil)
      (pss_cons (ps_set (i := 3) sc_law_bag.nd rfl (Or.inl rfl) (pe_callB (id := "abs")  call_abs (by rfl) T.n_abs (by decide +kernel) (pa_cons (pv 2) pa_nil)))
      (pss_one (ps_ret (pe_lst (pa_cons (pe_op op_mul (pv 3) (pe_callTy (T := "int")  call_int1 (by rfl) T.n_int (by decide +kernel) (pa_cons (pe_cmpR op_ge (pv 3) (pe_op op_powL pe_int pe_int) (nomark _)) pa_nil))) (pa_cons (pe_op op_add (pe_op op_mod (pv 2) (pe_op op_add (pe_op op_powL pe_int pe_int) pe_int)) (pe_op op_mul pe_int (pv 1))) (pa_cons pe_int pa_nil))))))))), ?_⟩
    have hk2 : (k : Int) ≤ 1000 := by omega
    have hk0 : (0 : Int) ≤ k := Int.natCast_nonneg _
    -- cell = 7919 * at * at + 104729 * at + 11
    refine ⟨_, rfl, _, _, rfl, rfl, .inl ⟨by decide, by decide⟩, _, rfl, _, _, rfl, rfl, .inr ⟨by omega, by omega⟩, _, rfl, _, _, rfl, rfl, .inl ⟨by decide, by decide⟩, _, _, rfl, rfl, _, _, rfl, rfl, ?_⟩
    -- if at < len(script)
    refine ⟨fun σ H' => H' = H ∧ ∃ c : Int, σ = [some (.ref a), some (.int k), some (.int c), none], ?_, ?_⟩
    · refine ⟨_, rfl, _, rfl, a, _, rfl, .inl hS, _, _, rfl, rfl, _, rfl, ?_⟩
      refine ite2 (fun hc => ?_) (fun hc => ?_)
      · have hlt : k < ns.length := by
          have := of_decide_eq_true hc
          rw [List.length_map] at this
          omega
        exact ⟨_, rfl, _, rfl, a, _, _, .int ns[k], rfl, rfl, hS, atI_nat (by rw [List.getElem?_map, List.getElem?_eq_getElem hlt]; rfl), rfl, _, rfl⟩
      · exact ⟨rfl, _, rfl⟩
    · rintro σ H' ⟨rfl, c, rfl⟩
      -- far = abs(cell); return [far * int(far >= 10 ** 18), cell % (10 ** 18 + 9) + 1299709 * at, 0]
      refine ⟨_, rfl, _, rfl, ?_⟩
      refine ⟨_, rfl, _, rfl, _, _, rfl, rfl, pow10, _, _, rfl, rfl, .inr ⟨_, rfl, _, _, rfl, rfl, cmul_b, ?_⟩⟩
      refine ⟨_, rfl, _, _, rfl, rfl, pow10, _, _, rfl, rfl, _, _, rfl, rfl, (by show (0 : Int) < 10 ^ (18 : Int).toNat + 9; decide), _, rfl, _, _, rfl, rfl, .inl ⟨by decide, by decide⟩, _, _, rfl, rfl, (by show 3 ≤ sizeLine; decide), fun p hp => ?_⟩
      exact q p _ hp (same_upd hp) (bag_made hk0 hk2)
abbrev sp_law_take (K : PySem.W.Frag) : Sp := spTake
theorem ok_law_take (T : Txt K mg) : FnOk P w K mg base CX0 1 (He.fAd K ("_law_take", none)) T.d_law_take ["_law_bag_here", "_law_size"] (sp_law_take K) := by
  refine T.F_law_take.ok sc_law_take (fun vs H Q E h => ?_) (fun cdv A outer s H vs Q E hr h => ?_)
  · obtain ⟨p, z, n, rfl, _⟩ := take_un h
    rfl
  · obtain ⟨p, z, n, rfl, hB, hz0, hz1, hn, q⟩ := take_un h
    refine ⟨_, PSs.nox (pss_cons (ps_if (pt_cmpR op_gt (pe_ix ix_list (pv 0) pe_int (fun _ _ => rfl)) pe_int (nomark _))
      (pss_cons (ps_set (i := 2) sc_law_take.nd rfl (Or.inl rfl) (pe_op op_mod (pe_ix ix_list (pv 0) pe_int (fun _ _ => rfl)) (pv 1)))
      (pss_cons (ps_asg (pe_op op_fdiv (pe_ix ix_list (pv 0) pe_int (fun _ _ => rfl)) (pv 1)) (pg_sub (pv 0) pe_int set_list))
      (pss_one (ps_ret (pv 2)))))
      pss_nil)
      (pss_cons (ps_set (i := 3) sc_law_take.nd rfl (Or.inl rfl) (pe_tup (pa_cons pe_int (pa_cons pe_int (pa_cons pe_int (pa_cons pe_int (pa_cons pe_int (pa_cons pe_int (pa_cons pe_int (pa_cons pe_int pa_nil))))))))))
      (pss_cons (ps_asg (pe_op op_add (pe_ix ix_list (pv 0) pe_int (fun _ _ => rfl)) pe_int) (pg_sub (pv 0) pe_int set_list))
      (pss_cons (ps_set (i := 4) sc_law_take.nd rfl (Or.inl rfl) (pe_ix ix_list (pv 0) pe_int (fun _ _ => rfl)))
      (pss_cons (ps_set (i := 5) sc_law_take.nd rfl (Or.inl rfl) (pe_op op_add (pe_op op_add (pe_op op_mul (pe_ix ix_list (pv 0) pe_int (fun _ _ => rfl)) (pe_op op_add (pe_op op_mul pe_int (pv 4)) pe_int)) (pe_op op_mul (pe_op op_mul pe_int (pv 4)) (pv 4))) pe_int))
      (pss_cons (ps_set (i := 6) sc_law_take.nd rfl (Or.inl rfl) (pe_op op_mod (pe_op op_powL (pv 5) pe_int) (pe_ix ix_tup (pv 3) (pe_op op_mod (pv 4) pe_int) (fun _ _ => rfl))))
      (pss_one (ps_ret (pe_op op_mod (pe_op op_fdiv (pe_op op_mod (pe_op op_mul (pv 6) (pe_op op_add (pe_op op_fdiv (pv 6) pe_int) pe_int)) (pe_ix ix_tup (pv 3) (pe_op op_mod (pe_op op_add (pv 4) pe_int) pe_int) (fun _ _ => rfl))) pe_int) (pv 1)))))))))), ?_⟩
    obtain ⟨a, b, c, hp, ha, hb, hb1, hc, hc1⟩ := hB.ex
    -- if bag[0] > 0
    refine ⟨_, rfl, p, _, _, _, rfl, rfl, SqL.of hp, at0, _, _, rfl, rfl, _, rfl, ?_⟩
    refine ite2 (fun _ => ?_) (fun _ => ?_)
    · -- digit = bag[0] % size
      refine ⟨_, rfl, p, _, _, _, rfl, rfl, SqL.of hp, at0, _, rfl, _, _, rfl, rfl, hz0, ?_⟩
      -- bag[0] = bag[0] // size
      refine ⟨_, rfl, p, _, _, _, rfl, rfl, SqL.of hp, at0, _, rfl, _, _, rfl, rfl, ⟨hz0, hz1⟩, _, rfl, p, _, _, 0, rfl, rfl, hp, rfl, ?_⟩
      refine ⟨_, rfl, ?_⟩
      refine q (a % z) _ (Int.emod_nonneg _ (by omega)) (Int.emod_lt_of_pos _ hz0) ⟨_, _, _, upd_same, Int.ediv_nonneg ha (by omega), hb, hb1, hc, by omega⟩ (mut_keep rfl)
    · -- primes
      refine ⟨by show 8 ≤ sizeLine; decide, fun t ht => ?_⟩
      generalize hE : upd H t _ = H1
      have k1 := new_at hE
      have s1 := new_same hE ht
      have hp1 := s1 _ _ hp
      have npt : p ≠ t := ne_some hp ht
      -- bag[2] = bag[2] + 1
      refine ⟨_, rfl, p, _, _, _, rfl, rfl, SqL.of hp1, at2, _, _, rfl, rfl, _, rfl, p, _, _, 2, rfl, rfl, hp1, rfl, ?_⟩
      generalize hE2 : upd H1 p _ = H2
      have hp2 : H2 p = some (.lst [.int a, .int b, .int (c + 1)]) := new_at hE2
      have kp2 := mut_keep hE2
      have k2 := kp2 _ _ k1 npt.symm
      have bag2 : Bag (n + 1) H2 p := ⟨_, _, _, hp2, ha, hb, hb1, by omega, by omega⟩
      have kpA : Kp p H H2 := (Kp.of s1).trans kp2
      -- stage, basis
      refine ⟨_, rfl, p, _, _, _, rfl, rfl, SqL.of hp2, at2, ?_⟩
      refine ⟨_, rfl, p, _, _, _, rfl, rfl, SqL.of hp2, at1, _, rfl, _, _, rfl, rfl, .inl ⟨by decide, by decide⟩, _, _, rfl, rfl, _, _, rfl, rfl, .inl ⟨by omega, by omega⟩, _, rfl, _, _, rfl, rfl, .inl ⟨by decide, by decide⟩, _, rfl, _, _, rfl, rfl, .inr ⟨by omega, by omega⟩, _, _, rfl, rfl, _, _, rfl, rfl, ?_⟩
      -- found = basis ** 3 % primes[stage % 8]
      obtain ⟨p1, e1, g1, l1⟩ := prime_at (c + 1)
      refine ⟨_, rfl, _, _, rfl, rfl, ⟨by decide, by decide, basis_small hb hb1 (by omega) (by omega)⟩, _, rfl, _, rfl, _, _, rfl, rfl, (by show (0 : Int) < 8; decide), t, _, _, _, rfl, rfl, SqT.of k2, e1, _, _, rfl, rfl, g1, ?_⟩
      generalize hf : (b * (2 * (c + 1) + 1) + 7919 * (c + 1) * (c + 1) + 29) ^ (3 : Int).toNat % p1 = f
      have f0 : 0 ≤ f := by rw [← hf]; exact Int.emod_nonneg _ (by have : 0 < p1 := g1; omega)
      have f1 : f < 2147483648 := by
        have h1 := Int.emod_lt_of_pos ((b * (2 * (c + 1) + 1) + 7919 * (c + 1) * (c + 1) + 29) ^ (3 : Int).toNat) (show 0 < p1 from g1)
        rw [hf] at h1
        omega
      obtain ⟨p2, e2, g2, l2⟩ := prime_at (c + 1 + 5)
      refine ⟨_, rfl, _, rfl, _, _, rfl, rfl, ⟨by decide, by decide⟩, _, _, rfl, rfl, _, _, rfl, rfl, .inl ⟨by omega, by omega⟩, _, rfl, _, rfl, _, _, rfl, rfl, _, _, rfl, rfl, (by show (0 : Int) < 8; decide), t, _, _, _, rfl, rfl, SqT.of k2, e2, _, _, rfl, rfl, g2, _, _, rfl, rfl, ⟨by decide, by decide⟩, _, rfl, _, _, rfl, rfl, hz0, ?_⟩
      exact q _ _ (Int.emod_nonneg _ (by omega)) (Int.emod_lt_of_pos _ hz0) bag2 kpA

-- SPLIT
/-! ### names drawn -/
def sp_law_name (K : PySem.W.Frag) : Sp := fun vs H Q _ => ∃ (p : Addr) (n : Nat), vs = [.ref p] ∧ Bag n H p ∧ n < 800000000 ∧
  ∀ (x : Str) H', Nm x → Bag (n + 10) H' p → Kp p H H' → Q (.str x) H'
theorem ok_law_name (T : Txt K mg) : FnOk P w K mg base CX0 2 (He.fAd K ("_law_name", none)) T.d_law_name ["_law_bag_here"] (sp_law_name K) := by
  refine T.F_law_name.ok sc_law_name (fun vs H Q E h => ?_) (fun cdv A outer s H vs Q E hr h => ?_)
  · obtain ⟨p, n, rfl, _⟩ := h
    rfl
  · obtain ⟨p, n, rfl, B, hn, q⟩ := h
    refine ⟨_, PSs.nox (pss_cons (ps_set (i := 1) sc_law_name.nd rfl (Or.inr rfl) pe_str)
      (pss_cons (ps_set (i := 2) sc_law_name.nd rfl (Or.inl rfl) (pe_op op_add pe_int (pe_call (ok_law_take T) (hr.mono (by decide)) (by rfl) T.m_law_take T.F_law_take.kp T.b_law_take .nil pass0 (pa_cons (pv 0) (pa_cons (pe_ix ix_list (pe_lst (pa_cons pe_int (pa_cons pe_int pa_nil))) (pe_callTy (T := "int")  call_int1 (by rfl) T.n_int (by decide +kernel) (pa_cons (pe_cmpR op_eq (pe_call (ok_law_take T) (hr.mono (by decide)) (by rfl) T.m_law_take T.F_law_take.kp T.b_law_take .nil pass0 (pa_cons (pv 0) (pa_cons pe_int pa_nil))) pe_int (nomark _)) pa_nil)) (fun _ _ => rfl)) pa_nil)))))
      (pss_one (ps_ret (pe_join pe_str (pe_lc (own := [("_law_spot", 3)]) (by rfl) sc_law_name.nd (pi_range1 (by rfl) T.n_range (pa_cons (pv 2) pa_nil)) (blkOk_by (own := [("_law_spot", 3)]) (N := N_law_name) (sc := defScope s_law_name) (by decide +kernel)) (fun _ _ _ _ _ => (pg_name (i := 3) sc_law_name.nd rfl (Or.inl rfl))) (fun _ _ _ _ _ => pts_nil) (fun _ _ _ _ _ => (pe_ix ix_str (pv 1) (pe_call (ok_law_take T) (hr.mono (by decide)) (by rfl) T.m_law_take T.F_law_take.kp T.b_law_take .nil pass0 (pa_cons (pv 0) (pa_cons pe_int pa_nil))) (fun _ _ => rfl))))))))), ?_⟩
    -- size = 1 + take(bag, [2, 8][int(take(bag, 4) == 0)])
    refine ⟨_, rfl, by show 2 ≤ sizeLine; decide, fun l1 n1 => ?_⟩
    generalize hE1 : upd H l1 _ = H1
    have w1 := new_at hE1
    have s1 := new_same hE1 n1
    have np1 := B.ne n1
    refine ⟨_, rfl, ?_⟩
    refine take_of (z := 4) (B.same s1) (by decide) (by decide) (by omega) fun r2 H2 a2 b2 B2 k2 => ?_
    have ix : ∃ m : Int, 2 ≤ m ∧ m ≤ 8 ∧ atI [V.int 2, V.int 8] (if decide (V.int r2 = V.int 0) = true then 1 else 0) = some (.int m) := by
      cases decide (V.int r2 = V.int 0)
      · exact ⟨2, by decide, by decide, at0⟩
      · exact ⟨8, by decide, by decide, at1⟩
    obtain ⟨m, m0, m1, em⟩ := ix
    refine ⟨rfl, .inr ⟨_, rfl, l1, _, _, _, rfl, rfl, SqL.of (k2 _ _ w1 np1.symm), em, ?_⟩⟩
    refine take_of (z := m) B2 (by omega) (by omega) (by omega) fun r3 H3 a3 b3 B3 k3 => ?_
    have kA : Kp p H H3 := ((Kp.of s1).trans k2).trans k3
    refine ⟨_, _, rfl, rfl, ?_⟩
    -- "".join([..])
    refine ⟨⟨_, rfl⟩, _, rfl, _, rfl, by omega, by omega, fun D nD => ?_⟩
    have npD := B3.ne nD
    refine lc_range (lo := 0) (n := (1 + r3).toNat) (fun i H' => Bag (n + 2 + i) H' p ∧ Kp p H H' ∧ ∃ ys : List Str, ys.length = i ∧ (∀ y ∈ ys, ∃ c, y = ⟨#[c]⟩ ∧ 97 ≤ c ∧ c ≤ 122) ∧ H' D = some (.lst (ys.map V.str)))
      ⟨B3.same (same_upd nD), kA.same (same_upd nD), [], rfl, (fun y hy => nomatch hy), upd_same⟩ ?_ ?_
    · rintro i H4 hi ⟨B4, k4, ys, hl, hy, w4⟩
      refine ⟨rfl, yes_of (iteT ?_)⟩
      refine ⟨_, rfl, _, rfl, ?_⟩
      refine take_of (z := 26) B4 (by decide) (by decide) (by omega) fun r5 H5 a5 b5 B5 k5 => ?_
      obtain ⟨c, ec, c0, c1⟩ := letter_at a5 b5
      have w5 := k5 _ _ w4 npD.symm
      refine ⟨_, _, c, rfl, rfl, by decide +kernel, ec, _, w5, by rw [List.length_map]; exact small1000 (by omega), ?_⟩
      have nDH : H D = none := kA.free nD npD.symm
      refine ⟨B5.keep (mut_keep rfl) npD, (k4.trans k5).own (mut_keep rfl) nDH, ys ++ [⟨#[c]⟩], by rw [List.length_append, hl]; rfl, fun y hyy => ?_, by rw [upd_same, List.map_append]; rfl⟩
      rcases List.mem_append.mp hyy with hyy | hyy
      · exact hy y hyy
      · rw [List.mem_singleton.mp hyy]
        exact ⟨c, rfl, c0, c1⟩
    · rintro H4 ⟨B4, k4, ys, hl, hy, w4⟩
      have hsum : (ys.map (·.length)).sum ≤ 8 := by
        have : ∀ ys : List Str, (∀ y ∈ ys, ∃ c, y = ⟨#[c]⟩ ∧ 97 ≤ c ∧ c ≤ 122) → (ys.map (·.length)).sum = ys.length := by
          intro ys
          induction ys with
          | nil => exact fun _ => rfl
          | cons y ys ih =>
            intro h
            obtain ⟨c, rfl, _⟩ := h y (List.mem_cons_self ..)
            rw [List.map_cons, List.sum_cons, ih fun z hz => h z (List.mem_cons_of_mem _ hz), List.length_cons]
            show 1 + ys.length = ys.length + 1
            omega
        rw [this ys hy]
        omega
      refine ⟨_, D, ys, rfl, rfl, .inl (SqL.of w4), by rw [show (Str.ofString "").length = 0 from by decide +kernel]; omega, ?_⟩
      exact q _ H4 (join_one hy (by omega) (by omega)) (B4.le (by omega)) k4
def sp_law_names (K : PySem.W.Frag) : Sp := fun vs H Q _ => ∃ (p : Addr) (k n : Nat), vs = [.ref p, .int k] ∧ Bag n H p ∧ n < 700000000 ∧ k ≤ 20 ∧
  ∀ (xs : List Str) (l : Addr) H', xs.length = k → xs.Nodup → (∀ x ∈ xs, Nm x) → H l = none → H' l = some (.lst (xs.map V.str)) → Bag (n + 10 * k) H' p → Kp p H H' → Q (.ref l) H'
theorem ok_law_names (T : Txt K mg) : FnOk P w K mg base CX0 3 (He.fAd K ("_law_names", none)) T.d_law_names ["_law_bag_here", "_law_size"] (sp_law_names K) := by
  refine T.F_law_names.ok sc_law_names (fun vs H Q E h => ?_) (fun cdv A outer s H vs Q E hr h => ?_)
  · obtain ⟨p, k, n, rfl, _⟩ := h
    rfl
  · obtain ⟨p, k, n, rfl, B, hn, hk, q⟩ := h
    refine ⟨_, PSs.nox (pss_cons (ps_set (i := 2) sc_law_names.nd rfl (Or.inr rfl) (pe_lst pa_nil))
      (pss_cons (ps_for PassesOwn.never rfl (pi_range1 (by rfl) T.n_range (pa_cons (pv 1) pa_nil)) (pg_name (i := 3) sc_law_names.nd rfl (Or.inl rfl))
      (pss_cons (ps_set (i := 4) sc_law_names.nd rfl (Or.inr rfl) (pe_call (ok_law_name T) (hr.mono (by decide)) (by rfl) T.m_law_name T.F_law_name.kp T.b_law_name .nil pass0 (pa_cons (pv 0) pa_nil)))
      (pss_mid (ps_if (pt_cmpR op_in_seq (pv 4) (pv 2) (by rfl))
      (pss_one (ps_set (i := 4) sc_law_names.nd rfl (Or.inr rfl) (pe_ix ix_list (pe_lc (own := [("_law_one", 5)]) (by rfl) sc_law_names.nd (pi_str pe_str) (blkOk_by (own := [("_law_one", 5)]) (N := N_law_names) (sc := defScope s_law_names) (by decide +kernel)) (fun _ _ _ _ _ => (pg_name (i := 5) sc_law_names.nd rfl (Or.inl rfl))) (fun _ _ _ _ _ => (pts_one (pt_cmpR (r := rIn K true) op_notIn_seq (pe_op op_add_str (pv 5) (pe_slice sl_str (pv 4) (po_some pe_int) po_none)) (pv 2) (by rfl)))) (fun _ _ _ _ _ => (pe_op op_add_str (pv 5) (pe_slice sl_str (pv 4) (po_some pe_int) po_none)))) pe_int (fun _ _ => rfl))))
      pss_nil)
      (pss_one (ps_expr (pe_bm PySem.F.plainAttrs_list PySem.F.slot_list_append PySem.F.type_list_append mt_append (pv 2) (pa_cons (pv 4) pa_nil)))))))
      (pss_one (ps_ret (pv 2))))), ?_⟩
    refine ⟨by show 0 ≤ sizeLine; decide, fun l nl => ?_⟩
    generalize hE1 : upd H l _ = H1
    have w1 := new_at hE1
    have s1 := new_same hE1 nl
    have npl := B.ne nl
    refine ⟨_, rfl, _, rfl, by omega, by omega, for_range (lo := 0) (n := (k : Int).toNat) (fun i σ H' => Bag (n + 10 * i) H' p ∧ Kp p H H' ∧ ∃ (xs : List Str) (y1 y2 y3 : Option V), xs.length = i ∧ xs.Nodup ∧ (∀ x ∈ xs, Nm x) ∧ H' l = some (.lst (xs.map V.str)) ∧ σ = [some (.ref p), some (.int k), some (.ref l), y1, y2, y3])
      ⟨B.same s1, Kp.of s1, [], none, none, none, rfl, List.nodup_nil, (fun x hx => nomatch hx), w1, rfl⟩ ?_ ?_⟩
    · rintro i σ H2 hi ⟨B2, k2, xs, y1, y2, y3, hl, hnd, hnm, w2, rfl⟩
      -- word = name(bag)
      refine ⟨_, rfl, p, n + 10 * i, rfl, B2, by omega, fun w H3 hw B3 k3 => ?_⟩
      have w3 := k3 _ _ w2 npl.symm
      -- if word in found
      refine ⟨fun σ H' => Same H3 H' ∧ ∃ (x : Str) (y3 : Option V), Nm x ∧ x ∉ xs ∧ σ = [some (.ref p), some (.int k), some (.ref l), some (.int (0 + (i : Int))), some (.str x), y3], ?_, ?_⟩
      · refine ⟨_, rfl, _, rfl, l, _, rfl, .inl (SqL.of w3), rfl, strs_flat xs, _, rfl, ?_⟩
        rw [inV_str]
        refine ite2 (fun hc => ?_) (fun hc => ?_)
        · refine ⟨_, rfl, fun D nD => ?_⟩
          refine lc_it (walk_str (z := lettersS)) (fun j H' => Same H3 H' ∧ H' D = some (.lst ((((List.range j).map fun i => (⟨#[97 + i]⟩ : Str) ++ tailS w).filter fun x => decide (x ∉ xs)).map V.str))) ⟨same_upd nD, upd_same⟩ (fun _ _ _ _ => trivial) ?_ ?_
          · rintro j x H4 H4' hj ⟨s4, w4⟩ ⟨rfl, c, hc', rfl⟩
            obtain ⟨hj26, rfl⟩ := letters_get hc'
            refine ⟨rfl, ?_⟩
            have hlen : (tailS w).length ≤ 8 := Nat.le_trans (cutS_length _ _ _) hw.2.2
            have ltot : ((⟨#[97 + j]⟩ : Str).length + (tailS w).length) ≤ sizeLine := by
              have h1 : (⟨#[97 + j]⟩ : Str).length = 1 := rfl
              rw [h1]
              exact Nat.le_of_lt (small1000 (by omega))
            refine ⟨_, rfl, _, rfl, _, rfl, w, rfl, Nat.le_trans hw.2.2 (by decide), _, _, rfl, rfl, ltot, _, rfl, l, _, rfl, .inl (SqL.of (s4 _ _ w3)), rfl, strs_flat xs, _, rfl, ?_⟩
            rw [range_map_succ', List.filter_append, List.map_append]
            show if (if true = true then !inV (.str ((⟨#[97 + j]⟩ : Str) ++ tailS w)) (xs.map V.str) else _) = true then _ else _
            rw [if_pos rfl, inV_str]
            by_cases hin : (⟨#[97 + j]⟩ : Str) ++ tailS w ∈ xs
            · rw [decide_eq_true hin]
              refine iteF ⟨s4, ?_⟩
              rw [List.filter_cons_of_neg (p := fun x => decide (x ∉ xs)) (by rw [decide_eq_false (fun z => z hin)]; exact Bool.false_ne_true)]
              rw [List.filter_nil, List.map_nil, List.append_nil]
              exact w4
            · rw [decide_eq_false hin]
              refine iteT ?_
              refine ⟨_, rfl, _, rfl, _, rfl, w, rfl, Nat.le_trans hw.2.2 (by decide), _, _, rfl, rfl, ltot, _, w4, ?_, Same.own (q := D) (H1 := H4') s4 (mut_keep rfl) nD, ?_⟩
              · rw [List.length_map]
                refine Nat.lt_of_le_of_lt (List.length_filter_le _ _) ?_
                rw [List.length_map, List.length_range]
                exact small1000 (by omega)
              · rw [upd_same, List.filter_cons_of_pos (p := fun x => decide (x ∉ xs)) (decide_eq_true hin)]
                rfl
          · rintro H4 ⟨s4, w4⟩
            rw [letters_size] at w4
            obtain ⟨x, hxm, hxf⟩ := free_in (cands_nodup (tailS w)) (ds := xs) (by unfold cands; rw [List.length_map, List.length_range]; omega)
            generalize hF : ((List.range 26).map fun i => (⟨#[97 + i]⟩ : Str) ++ tailS w).filter (fun x => decide (x ∉ xs)) = fs at w4
            have hmem : ∀ z ∈ fs, Nm z ∧ z ∉ xs := fun z hz => by
              rw [← hF] at hz
              obtain ⟨h1, h2⟩ := List.mem_filter.mp hz
              obtain ⟨i, hi, rfl⟩ := List.mem_map.mp h1
              exact ⟨cand_nm hw (List.mem_range.mp hi), of_decide_eq_true h2⟩
            have hx : x ∈ fs := by
              rw [← hF]
              exact List.mem_filter.mpr ⟨hxm, decide_eq_true hxf⟩
            cases fs with
            | nil => cases hx
            | cons z zs =>
              refine ⟨D, _, _, _, rfl, rfl, SqL.of w4, at0, s4, z, _, (hmem z (List.mem_cons_self ..)).1, (hmem z (List.mem_cons_self ..)).2, rfl⟩
        · refine ⟨Same.refl H3, w, _, hw, fun z => hc (decide_eq_true z), rfl⟩
      · rintro σ H4 ⟨s4, x, y3, hx, hxn, rfl⟩
        have w4 := s4 _ _ w3
        refine ⟨_, rfl, .inl ⟨rfl, _, SqL.of w4⟩, _, rfl, l, _, _, rfl, rfl, w4, by rw [List.length_map]; exact small1000 (by omega), ?_⟩
        have B4 := B3.same s4
        refine ⟨(B4.keep (mut_keep rfl) npl).le (by omega), ((k2.trans k3).same s4).own (mut_keep rfl) nl, xs ++ [x], _, _, _, by rw [List.length_append, hl]; rfl, ?_, fun z hz => ?_, by rw [upd_same, List.map_append]; rfl, rfl⟩
        · rw [List.nodup_append]
          exact ⟨hnd, List.nodup_cons.mpr ⟨by simp, List.nodup_nil⟩, fun a ha b hb e => hxn (by rw [List.mem_singleton.mp hb] at e; rw [← e]; exact ha)⟩
        · rcases List.mem_append.mp hz with hz | hz
          · exact hnm z hz
          · rw [List.mem_singleton.mp hz]
            exact hx
    · rintro σ H2 ⟨B2, k2, xs, y1, y2, y3, hl, hnd, hnm, w2, rfl⟩
      exact ⟨_, rfl, q xs l H2 (by omega) hnd hnm nl w2 (B2.le (by omega)) k2⟩

-- SPLIT
/-! ### some of a pool -/
def sp_law_some (K : PySem.W.Frag) : Sp := fun vs H Q _ => ∃ (p l : Addr) (k n : Nat) (xs : List Str), vs = [.ref p, .ref l, .int k] ∧ Bag n H p ∧ n < 700000000 ∧ k ≤ 20 ∧ SqL K H l (xs.map V.str) ∧ l ≠ p ∧ xs.Nodup ∧ xs.length ≤ 100 ∧ (∀ x ∈ xs, Nm x) ∧
  ∀ (ys : List Str) (t : Addr) H', ys.Nodup → (∀ y ∈ ys, y ∈ xs) → ys.length ≤ k → H t = none → H' t = some (.tup (ys.map V.str)) → Bag (n + 1 + k) H' p → Kp p H H' → Q (.ref t) H'
theorem ok_law_some (T : Txt K mg) : FnOk P w K mg base CX0 2 (He.fAd K ("_law_some", none)) T.d_law_some ["_law_bag_here", "_law_pool", "_law_most"] (sp_law_some K) := by
  refine T.F_law_some.ok sc_law_some (fun vs H Q E h => ?_) (fun cdv A outer s H vs Q E hr h => ?_)
  · obtain ⟨p, l, k, n, xs, rfl, _⟩ := h
    rfl
  · obtain ⟨p, l, k, n, xs, rfl, B, hn, hk, hL, nlp, hnd, hxl, hnm, q⟩ := h
    refine ⟨_, PSs.nox (pss_cons (ps_set (i := 3) sc_law_some.nd rfl (Or.inl rfl) (pe_callTy (T := "list")  call_list_of (by rfl) T.n_list (by decide +kernel) (pa_cons (pv 1) pa_nil)))
      (pss_cons (ps_set (i := 4) sc_law_some.nd rfl (Or.inl rfl) (pe_lst pa_nil))
      (pss_cons (ps_for PassesOwn.never rfl (pi_range1 (by rfl) T.n_range (pa_cons (pe_call (ok_law_take T) (hr.mono (by decide)) (by rfl) T.m_law_take T.F_law_take.kp T.b_law_take .nil pass0 (pa_cons (pv 0) (pa_cons (pe_op op_add (pv 2) pe_int) pa_nil))) pa_nil)) (pg_name (i := 5) sc_law_some.nd rfl (Or.inl rfl))
      (pss_one (ps_if (pt_cmpR (op_neD hr.units) (pv 3) (pe_lst pa_nil) (nomark _))
      (pss_one (ps_expr (pe_bm PySem.F.plainAttrs_list PySem.F.slot_list_append PySem.F.type_list_append mt_append (pv 4) (pa_cons (pe_bm PySem.F.plainAttrs_list PySem.F.slot_list_pop PySem.F.type_list_pop mt_popAt (pv 3) (pa_cons (pe_call (ok_law_take T) (hr.mono (by decide)) (by rfl) T.m_law_take T.F_law_take.kp T.b_law_take .nil pass0 (pa_cons (pv 0) (pa_cons (pe_callB (id := "len")  call_len_seq (by rfl) T.n_len (by decide +kernel) (pa_cons (pv 3) pa_nil)) pa_nil))) pa_nil)) pa_nil))))
      pss_nil)))
      (pss_one (ps_ret (pe_callTy (T := "tuple")  call_tuple_of (by rfl) T.n_tuple (by decide +kernel) (pa_cons (pv 4) pa_nil))))))), ?_⟩
    -- left = list(pool); found = []
    refine ⟨_, rfl, l, _, rfl, .inl hL, fun a na => ?_⟩
    generalize hE1 : upd H a _ = H1
    have w1 := new_at hE1
    have s1 := new_same hE1 na
    have npa := B.ne na
    refine ⟨by show 0 ≤ sizeLine; decide, fun b nb => ?_⟩
    generalize hE2 : upd H1 b _ = H2
    have w2 := new_at hE2
    have s2 := new_same hE2 nb
    have npb := (B.same s1).ne nb
    have nab : a ≠ b := ne_some w1 nb
    have nbH : H b = none := s1.free nb
    -- range(take(bag, most + 1))
    refine ⟨_, rfl, _, rfl, _, _, rfl, rfl, ?_⟩
    refine take_of (z := (k : Int) + 1) ((B.same s1).same s2) (by omega) (by omega) (by omega) fun r3 H3 a3 b3 B3 k3 => ?_
    have kA : Kp p H H3 := (Kp.of (s1.trans s2)).trans k3
    refine ⟨r3, rfl, by omega, by omega, for_range (lo := 0) (n := r3.toNat) (fun i σ H' => Bag (n + 1 + i) H' p ∧ Kp p H H' ∧ ∃ (ls fs : List Str) (y : Option V), H' a = some (.lst (ls.map V.str)) ∧ H' b = some (.lst (fs.map V.str)) ∧ (fs ++ ls).Nodup ∧ (∀ x ∈ fs ++ ls, x ∈ xs) ∧ fs.length ≤ i ∧ ls.length ≤ 100 ∧
        σ = [some (.ref p), some (.ref l), some (.int k), some (.ref a), some (.ref b), y])
      ⟨B3, kA, xs, [], none, k3 _ _ (s2 _ _ w1) npa.symm, k3 _ _ w2 npb.symm, hnd, fun x hx => hx, Nat.le_refl _, hxl, rfl⟩ ?_ ?_⟩
    · rintro i σ H4 hi ⟨B4, k4, ls, fs, y, wa, wb, hnd4, hsub, hfl, hll, rfl⟩
      have nmL : ∀ x ∈ ls, Nm x := fun x hx => hnm x (hsub x (List.mem_append_right _ hx))
      -- if left != []
      refine ⟨_, rfl, by show 0 ≤ sizeLine; decide, fun l5 n5 => ?_⟩
      generalize hE5 : upd H4 l5 _ = H5
      have w5 : H5 l5 = some (.lst (([] : List Str).map V.str)) := new_at hE5
      have s5 := new_same hE5 n5
      have wa5 := s5 _ _ wa
      have wb5 := s5 _ _ wb
      refine neD_strs (SqL.of wa5) (SqL.of w5) (fun x hx => (nmL x hx).ok) (fun x hx => nomatch hx) ⟨_, rfl, ?_⟩
      by_cases hls : ls = []
      · rw [decide_eq_true hls]
        refine iteF ?_
        exact ⟨(B4.same s5).le (by omega), k4.same s5, ls, fs, _, wa5, wb5, hnd4, hsub, by omega, hll, rfl⟩
      · rw [decide_eq_false hls]
        refine iteT ?_
        have hpos : 0 < ls.length := List.length_pos_iff.mpr hls
        -- found.append(left.pop(take(bag, len(left))))
        refine ⟨_, rfl, .inl ⟨rfl, _, SqL.of wb5⟩, _, rfl, .inl ⟨rfl, _, SqL.of wa5⟩, _, rfl, _, rfl, a, _, rfl, .inl (SqL.of wa5), ?_⟩
        refine take_of (z := ((ls.map V.str).length : Int)) (B4.same s5) (by rw [List.length_map]; omega) (by rw [List.length_map]; omega) (by omega) fun r6 H6 a6 b6 B6 k6 => ?_
        rw [List.length_map] at b6
        have hr : r6.toNat < ls.length := by omega
        have wa6 := k6 _ _ wa5 npa.symm
        have wb6 := k6 _ _ wb5 npb.symm
        refine ⟨a, _, r6, r6.toNat, .str ls[r6.toNat], rfl, rfl, wa6, by omega, by omega, by rw [List.length_map]; exact seq_ix a6 b6, by rw [List.getElem?_map, List.getElem?_eq_getElem hr]; rfl, ?_⟩
        generalize hE7 : upd H6 a _ = H7
        have wa7 := new_at hE7
        have m7 := mut_keep hE7
        have wb7 := m7 _ _ wb6 nab.symm
        refine ⟨b, _, _, rfl, rfl, wb7, by rw [List.length_map]; exact small1000 (by omega), ?_⟩
        generalize hE8 : upd H7 b _ = H8
        have wb8 := new_at hE8
        have m8 := mut_keep hE8
        have hperm : (fs ++ [ls[r6.toNat]] ++ ls.eraseIdx r6.toNat).Perm (fs ++ ls) := by
          rw [List.append_assoc]
          exact List.Perm.append_left fs (perm_pick ls r6.toNat hr)
        refine ⟨((B6.keep m7 npa).keep m8 npb).le (by omega), (((k4.same s5).trans k6).own m7 na).own m8 nbH, ls.eraseIdx r6.toNat, fs ++ [ls[r6.toNat]], _, ?_, by rw [List.map_append]; exact wb8, hperm.nodup_iff.mpr hnd4, fun x hx => hsub x (hperm.mem_iff.mp hx), by rw [List.length_append]; exact Nat.succ_le_succ hfl, Nat.le_trans (List.length_eraseIdx_le ..) hll, rfl⟩
        have wa8 := m8 _ _ wa7 nab
        rw [map_pick] at wa8
        exact wa8
    · rintro σ H4 ⟨B4, k4, ls, fs, y, wa, wb, hnd4, hsub, hfl, hll, rfl⟩
      refine ⟨_, rfl, b, _, rfl, .inl ⟨SqL.of wb, fun t nt => ?_⟩⟩
      have ntp := (B4.ne nt).symm
      exact q fs t _ (List.nodup_append.mp hnd4).1 (fun y hy => hsub y (List.mem_append_left _ hy)) (by omega) (k4.free nt ntp) upd_same ((B4.same (same_upd nt)).le (by omega)) (k4.same (same_upd nt))

/-! ### a rule, its parts -/
def sp_law_rule_parts (K : PySem.W.Frag) : Sp := fun vs H Q _ => ∃ (p : Addr) (n : Nat), vs = [.ref p] ∧ Bag n H p ∧ n < 800000000 ∧
  ∀ (f m t b s : Int) (v : Addr) H', Five f m t b s → H v = none → H' v = some (.tup [.int f, .int m, .int t, .int b, .int s]) → Bag (n + 10) H' p → Kp p H H' → Q (.ref v) H'
theorem ok_law_rule_parts (T : Txt K mg) : FnOk P w K mg base CX0 2 (He.fAd K ("_law_rule_parts", none)) T.d_law_rule_parts ["_law_bag_here"] (sp_law_rule_parts K) := by
  refine T.F_law_rule_parts.ok sc_law_rule_parts (fun vs H Q E h => ?_) (fun cdv A outer s H vs Q E hr h => ?_)
  · obtain ⟨p, n, rfl, _⟩ := h
    rfl
  · obtain ⟨p, n, rfl, B, hn, q⟩ := h
    refine ⟨_, PSs.nox (pss_cons (ps_set (i := 1) sc_law_rule_parts.nd rfl (Or.inl rfl) (pe_lst (pa_cons (pe_op op_add pe_int (pe_call (ok_law_take T) (hr.mono (by decide)) (by rfl) T.m_law_take T.F_law_take.kp T.b_law_take .nil pass0 (pa_cons (pv 0) (pa_cons (pe_ix ix_list (pe_lst (pa_cons pe_int (pa_cons pe_int pa_nil))) (pe_call (ok_law_take T) (hr.mono (by decide)) (by rfl) T.m_law_take T.F_law_take.kp T.b_law_take .nil pass0 (pa_cons (pv 0) (pa_cons pe_int pa_nil))) (fun _ _ => rfl)) pa_nil)))) (pa_cons (pe_op op_add pe_int (pe_call (ok_law_take T) (hr.mono (by decide)) (by rfl) T.m_law_take T.F_law_take.kp T.b_law_take .nil pass0 (pa_cons (pv 0) (pa_cons (pe_ix ix_list (pe_lst (pa_cons pe_int (pa_cons pe_int pa_nil))) (pe_call (ok_law_take T) (hr.mono (by decide)) (by rfl) T.m_law_take T.F_law_take.kp T.b_law_take .nil pass0 (pa_cons (pv 0) (pa_cons pe_int pa_nil))) (fun _ _ => rfl)) pa_nil)))) pa_nil))))
      (pss_cons (ps_expr (pe_bm PySem.F.plainAttrs_list PySem.F.slot_list_append PySem.F.type_list_append mt_append (pv 1) (pa_cons (pe_op op_add pe_int (pe_call (ok_law_take T) (hr.mono (by decide)) (by rfl) T.m_law_take T.F_law_take.kp T.b_law_take .nil pass0 (pa_cons (pv 0) (pa_cons (pe_ix ix_list (pe_lst (pa_cons pe_int (pa_cons pe_int (pa_cons (pe_op op_powL pe_int pe_int) pa_nil)))) (pe_call (ok_law_take T) (hr.mono (by decide)) (by rfl) T.m_law_take T.F_law_take.kp T.b_law_take .nil pass0 (pa_cons (pv 0) (pa_cons pe_int pa_nil))) (fun _ _ => rfl)) pa_nil)))) pa_nil)))
      (pss_cons (ps_expr (pe_bm PySem.F.plainAttrs_list PySem.F.slot_list_append PySem.F.type_list_append mt_append (pv 1) (pa_cons (pe_call (ok_law_take T) (hr.mono (by decide)) (by rfl) T.m_law_take T.F_law_take.kp T.b_law_take .nil pass0 (pa_cons (pv 0) (pa_cons (pe_ix ix_list (pe_lst (pa_cons pe_int (pa_cons pe_int pa_nil))) (pe_call (ok_law_take T) (hr.mono (by decide)) (by rfl) T.m_law_take T.F_law_take.kp T.b_law_take .nil pass0 (pa_cons (pv 0) (pa_cons pe_int pa_nil))) (fun _ _ => rfl)) pa_nil))) pa_nil)))
      (pss_one (ps_ret (pe_callTy (T := "tuple")  call_tuple_of (by rfl) T.n_tuple (by decide +kernel) (pa_cons (pe_op op_cat (pv 1) (pe_lst (pa_cons (pe_call (ok_law_take T) (hr.mono (by decide)) (by rfl) T.m_law_take T.F_law_take.kp T.b_law_take .nil pass0 (pa_cons (pv 0) (pa_cons (pe_ix ix_list (pe_lst (pa_cons pe_int (pa_cons pe_int (pa_cons (pe_op op_add (pe_op op_powL pe_int pe_int) pe_int) pa_nil)))) (pe_call (ok_law_take T) (hr.mono (by decide)) (by rfl) T.m_law_take T.F_law_take.kp T.b_law_take .nil pass0 (pa_cons (pv 0) (pa_cons pe_int pa_nil))) (fun _ _ => rfl)) pa_nil))) pa_nil))) pa_nil))))))), ?_⟩
    refine ⟨_, rfl, by show 2 ≤ sizeLine; decide, fun l1 n1 => ⟨_, rfl, ?_⟩⟩
    refine take_menu (zs := [3, 1000]) B (by omega) n1 rfl (by decide) (by decide) (by decide) fun z1 r1 H1 hz1 a1 b1 B1 k1 => ?_
    refine ⟨_, _, rfl, rfl, _, rfl, by show 2 ≤ sizeLine; decide, fun l2 n2 => ⟨_, rfl, ?_⟩⟩
    refine take_menu (zs := [3, 10]) B1 (by omega) n2 rfl (by decide) (by decide) (by decide) fun z2 r2 H2 hz2 a2 b2 B2 k2 => ?_
    have k12 := k1.trans k2
    refine ⟨_, _, rfl, rfl, by show 2 ≤ sizeLine; decide, fun some n3 => ?_⟩
    have npS := B2.ne n3
    have n3' := k12.free n3 npS.symm
    generalize hE : upd H2 some _ = H3
    have w3 := new_at hE
    have s3 := new_same hE n3
    have k13 := k12.same s3
    -- append top
    refine ⟨_, rfl, .inl ⟨rfl, _, SqL.of w3⟩, _, rfl, _, _, rfl, rfl, pow10, by show 3 ≤ sizeLine; decide, fun l4 n4 => ⟨_, rfl, ?_⟩⟩
    refine take_menu (zs := [20, 1000, 10 ^ (6 : Int).toNat]) (B2.same s3) (by omega) n4 rfl (by decide) (by decide) (by decide) fun z3 r3 H4 hz3 a3 b3 B4 k4 => ?_
    have w4 := k4 _ _ w3 npS.symm
    refine ⟨_, _, rfl, rfl, some, _, _, rfl, rfl, w4, by show 2 < sizeLine; decide, ?_⟩
    generalize hE5 : upd H4 some _ = H5
    have w5 := new_at hE5
    have m5 := mut_keep hE5
    have B5 := B4.keep m5 npS
    have k15 := (k13.trans k4).own m5 n3'
    -- append burst
    refine ⟨_, rfl, .inl ⟨rfl, _, SqL.of w5⟩, _, rfl, by show 2 ≤ sizeLine; decide, fun l6 n6 => ⟨_, rfl, ?_⟩⟩
    refine take_menu (zs := [4, 21]) B5 (by omega) n6 rfl (by decide) (by decide) (by decide) fun z4 r4 H6 hz4 a4 b4 B6 k6 => ?_
    have w6 := k6 _ _ w5 npS.symm
    refine ⟨some, _, _, rfl, rfl, w6, by show 3 < sizeLine; decide, ?_⟩
    generalize hE7 : upd H6 some _ = H7
    have w7 := new_at hE7
    have m7 := mut_keep hE7
    have B7 := B6.keep m7 npS
    have k17 := (k15.trans k6).own m7 n3'
    -- tuple(some + [span])
    refine ⟨_, rfl, _, rfl, _, _, rfl, rfl, pow10, _, _, rfl, rfl, by show 3 ≤ sizeLine; decide, fun l8 n8 => ⟨_, rfl, ?_⟩⟩
    refine take_menu (zs := [30, 1000, 10 ^ (6 : Int).toNat + 1]) B7 (by omega) n8 rfl (by decide) (by decide) (by decide) fun z5 r5 H8 hz5 a5 b5 B8 k8 => ?_
    have w8 := k8 _ _ w7 npS.symm
    refine ⟨by show 1 ≤ sizeLine; decide, fun l9 n9 => ?_⟩
    generalize hE9 : upd H8 l9 _ = H9
    have w9 := new_at hE9
    have s9 := new_same hE9 n9
    refine ⟨some, l9, _, _, rfl, rfl, s9 _ _ w8, w9, by show 5 ≤ sizeLine; decide, fun l10 n10 => ?_⟩
    generalize hE10 : upd H9 l10 _ = H10
    have w10 := new_at hE10
    have s10 := new_same hE10 n10
    refine ⟨l10, _, rfl, .inl ⟨SqL.of w10, fun v nv => ?_⟩⟩
    generalize hE11 : upd H10 v _ = H11
    have w11 := new_at hE11
    have s11 := new_same hE11 nv
    have s8 : Same H8 H11 := (s9.trans s10).trans s11
    have k18 : Kp p H H11 := (k17.trans k8).same s8
    have npv : v ≠ p := fun e => by
      rw [e] at nv
      obtain ⟨o, ho⟩ := (B8.same (s9.trans s10)).some
      rw [ho] at nv
      cases nv
    refine q (1 + r1) (1 + r2) (1 + r3) r4 r5 v H11 ⟨?_, ?_, ?_, ?_, ?_, ?_, ?_, ?_, ?_, ?_⟩ (k17.trans k8 |>.same (s9.trans s10) |>.free nv npv) w11 (B8.same s8) k18
    all_goals (have e6 : (10 : Int) ^ (6 : Int).toNat = 1000000 := by decide
               simp only [List.mem_cons, List.not_mem_nil, or_false, e6] at hz1 hz2 hz3 hz4 hz5; omega)

/-! ### the rule itself -/
abbrev rFs (f m t b s : Int) : List (Str × V) := [("first", .int f), ("times", .int m), ("top", .int t), ("burst", .int b), ("span", .int s)]
/-- a rule stands at a -/
def RuleAt (K : PySem.W.Frag) (H : Hp) (a : Addr) (f m t b s : Int) : Prop := ∃ dx, H a = some (.ins (He.ga K "Rule") dx (rFs f m t b s))
theorem RuleAt.same {H H' : Hp} {a : Addr} {f m t b s : Int} (h : RuleAt K H a f m t b s) (e : Same H H') : RuleAt K H' a f m t b s := by
  obtain ⟨dx, h⟩ := h
  exact ⟨dx, e _ _ h⟩
theorem RuleAt.keep {H H' : Hp} {a p : Addr} {f m t b s : Int} (h : RuleAt K H a f m t b s) (e : Kp p H H') (n : a ≠ p) : RuleAt K H' a f m t b s := by
  obtain ⟨dx, h⟩ := h
  exact ⟨dx, e _ _ h n⟩
def sp_Rule_init (K : PySem.W.Frag) : Sp := fun vs H Q _ => ∃ (p dx : Addr) (f m t b s : Int), vs = [.ref p, .int f, .int m, .int t, .int b, .int s] ∧ H p = some (.ins (He.ga K "Rule") dx []) ∧
  ∀ H', H' p = some (.ins (He.ga K "Rule") dx (rFs f m t b s)) → Kp p H H' → Q .non H'
theorem ok_Rule_init (T : Txt K mg) : FnOk P w K mg base CX0 1 (He.fAd K ("Rule", some "__init__")) T.d_Rule_init ["self", "first", "times", "top", "burst", "span"] (sp_Rule_init K) := by
  refine T.F_Rule_init.ok sc_Rule_init (fun vs H Q E h => ?_) (fun cdv A outer s H vs Q E hr h => ?_)
  · obtain ⟨p, dx, f, m, t, b, s, rfl, _⟩ := h
    rfl
  · obtain ⟨p, dx, f, m, t, b, s, rfl, hp, q⟩ := h
    refine ⟨_, PSs.nox (pss_cons (ps_fld (pv 0) (pv 1) rfl)
      (pss_cons (ps_fld (pv 0) (pv 2) rfl)
      (pss_cons (ps_fld (pv 0) (pv 3) rfl)
      (pss_cons (ps_fld (pv 0) (pv 4) rfl)
      (pss_one (ps_fld (pv 0) (pv 5) rfl)))))), ?_⟩
    refine ⟨_, rfl, _, rfl, p, _, dx, [], rfl, hp, T.cl_Rule, T.na_Rule_first, (by show 0 < 1000; decide), ?_⟩
    refine ⟨_, rfl, _, rfl, p, _, dx, _, rfl, upd_same, T.cl_Rule, T.na_Rule_times, (by show 1 < 1000; decide), ?_⟩
    refine ⟨_, rfl, _, rfl, p, _, dx, _, rfl, upd_same, T.cl_Rule, T.na_Rule_top, (by show 2 < 1000; decide), ?_⟩
    refine ⟨_, rfl, _, rfl, p, _, dx, _, rfl, upd_same, T.cl_Rule, T.na_Rule_burst, (by show 3 < 1000; decide), ?_⟩
    refine ⟨_, rfl, _, rfl, p, _, dx, _, rfl, upd_same, T.cl_Rule, T.na_Rule_span, (by show 4 < 1000; decide), ?_⟩
    refine q _ upd_same fun c o h n => ?_
    rw [upd_ne n, upd_ne n, upd_ne n, upd_ne n, upd_ne n]
    exact h

def sp_law_rule (K : PySem.W.Frag) : Sp := fun vs H Q _ => ∃ (v : Addr) (f m t b s : Int), vs = [.ref v] ∧ SqT K H v [.int f, .int m, .int t, .int b, .int s] ∧
  ∀ a H', H a = none → Same H H' → RuleAt K H' a f m t b s → Q (.ref a) H'
theorem ok_law_rule (T : Txt K mg) : FnOk P w K mg base CX0 3 (He.fAd K ("_law_rule", none)) T.d_law_rule ["_law_five"] (sp_law_rule K) := by
  refine T.F_law_rule.ok sc_law_rule (fun vs H Q E h => ?_) (fun cdv A outer s H vs Q E hr h => ?_)
  · obtain ⟨v, f, m, t, b, s, rfl, _⟩ := h
    rfl
  · obtain ⟨v, f, m, t, b, s, rfl, hv, q⟩ := h
    refine ⟨_, PSs.nox (pss_one (ps_ret (pe_makeK0 T.mk_Rule (ok_Rule_init T) (hr.mono (by decide)) (by rfl) T.m_Rule T.kb_Rule_init_1_first_times_top_burst_span.choose_spec pass0 (pk_cons (pe_ix ix_tup (pv 0) pe_int (fun _ _ => rfl)) (pk_cons (pe_ix ix_tup (pv 0) pe_int (fun _ _ => rfl)) (pk_cons (pe_ix ix_tup (pv 0) pe_int (fun _ _ => rfl)) (pk_cons (pe_ix ix_tup (pv 0) pe_int (fun _ _ => rfl)) (pk_cons (pe_ix ix_tup (pv 0) pe_int (fun _ _ => rfl)) pk_nil)))))))), ?_⟩
    refine ⟨_, rfl, v, _, _, _, rfl, rfl, hv, at0, _, rfl, v, _, _, _, rfl, rfl, hv, at1, _, rfl, v, _, _, _, rfl, rfl, hv, at2, _, rfl, v, _, _, _, rfl, rfl, hv, at3, _, rfl, v, _, _, _, rfl, rfl, hv, at4, rfl, rfl, fun x dx nx nd ne => ?_⟩
    refine ⟨x, dx, f, m, t, b, s, rfl, upd_same, fun H' w kp => ⟨rfl, q x H' nx (Same.made nx nd fun b o e n => kp b o e n) ⟨dx, w⟩⟩⟩

-- SPLIT
/-! ### the facts -/
def sp_law_facts (K : PySem.W.Frag) : Sp := fun vs H Q _ => ∃ (p : Addr) (k n : Nat), vs = [.ref p, .int k] ∧ Bag n H p ∧ n < 600000000 ∧ 0 < k ∧ k ≤ 16 ∧
  ∀ (ns ss : List Str) (us : List (Str × UF)) (kvs : List (Key × V)) (d : Addr) H', us.map (·.1) = ns → ns.Nodup → (∀ x ∈ ns, Nm x) → 0 < ns.length → ns.length ≤ k → ss.Nodup → (∀ x ∈ ss, Nm x ∧ x ∉ ns) → ss.length ≤ 2 →
    (∀ q ∈ us, UOk ns ss q.1 q.2) → FactsAt H' kvs us → H d = none → H' d = some (.dK kvs) → Bag (n + 2000) H' p → Kp p H H' → Q (.ref d) H'
theorem ok_law_facts (T : Txt K mg) : FnOk P w K mg base CX0 4 (He.fAd K ("_law_facts", none)) T.d_law_facts ["_law_bag_here", "_law_most"] (sp_law_facts K) := by
  refine T.F_law_facts.ok sc_law_facts (fun vs H Q E h => ?_) (fun cdv A outer s H vs Q E hr h => ?_)
  · obtain ⟨p, k, n, rfl, _⟩ := h
    rfl
  · obtain ⟨p, k, n, rfl, B, hn, hk0, hk, q⟩ := h
    refine ⟨_, PSs.nox (pss_cons (ps_set (i := 2) sc_law_facts.nd rfl (Or.inr rfl) (pe_call (ok_law_names T) (hr.mono (by decide)) (by rfl) T.m_law_names T.F_law_names.kp T.b_law_names .nil pass0 (pa_cons (pv 0) (pa_cons (pe_op op_add pe_int (pe_call (ok_law_take T) (hr.mono (by decide)) (by rfl) T.m_law_take T.F_law_take.kp T.b_law_take .nil pass0 (pa_cons (pv 0) (pa_cons (pv 1) pa_nil)))) pa_nil))))
      (pss_cons (ps_set (i := 3) sc_law_facts.nd rfl (Or.inl rfl) (pe_slice sl_list (pe_lc (own := [("_law_one", 16)]) (by rfl) sc_law_facts.nd (pi_str pe_str) (blkOk_by (own := [("_law_one", 16)]) (N := N_law_facts) (sc := defScope s_law_facts) (by decide +kernel)) (fun _ _ _ _ _ => (pg_name (i := 16) sc_law_facts.nd rfl (Or.inl rfl))) (fun _ _ _ _ _ => (pts_one (pt_cmpR (r := rIn K true) op_notIn_seq (pe_op op_add_str (pv 16) pe_str) (pv 2) (by rfl)))) (fun _ _ _ _ _ => (pe_op op_add_str (pv 16) pe_str))) po_none (po_some pe_int)))
      (pss_cons (ps_set (i := 4) sc_law_facts.nd rfl (Or.inl rfl) (pe_cmpR op_eq (pe_call (ok_law_take T) (hr.mono (by decide)) (by rfl) T.m_law_take T.F_law_take.kp T.b_law_take .nil pass0 (pa_cons (pv 0) (pa_cons pe_int pa_nil))) pe_int (nomark _)))
      (pss_cons (ps_set (i := 5) sc_law_facts.nd rfl (Or.inl rfl) pe_dnewK)
      (pss_cons (ps_for PassesOwn.never rfl (pi_list (pv 2)) (pg_name (i := 6) sc_law_facts.nd rfl (Or.inr rfl))
      (pss_cons (ps_setLc (i := 7) (own := [("_law_one", 16)]) (by rfl) sc_law_facts.nd rfl rfl (sw_true rfl rfl rfl (by decide +kernel)) (pi_list (pv 2)) (blkOk_by (own := [("_law_one", 16)]) (N := N_law_facts) (sc := defScope s_law_facts) (by decide +kernel)) (fun _ _ _ _ _ => (pg_name (i := 16) sc_law_facts.nd rfl (Or.inl rfl))) (fun _ _ _ _ _ => (pts_one (pt_cmpR op_ne (pv 16) (pv 6) (nomark _)))) (fun _ _ _ _ _ => (pv 16)))
      (pss_cons (ps_set (i := 8) sc_law_facts.nd rfl (Or.inl rfl) (pe_ix ix_list (pe_lst (pa_cons pe_int (pa_cons pe_int (pa_cons pe_int (pa_cons pe_int (pa_cons pe_int pa_nil)))))) (pe_call (ok_law_take T) (hr.mono (by decide)) (by rfl) T.m_law_take T.F_law_take.kp T.b_law_take .nil pass0 (pa_cons (pv 0) (pa_cons pe_int pa_nil))) (fun _ _ => rfl)))
      (pss_cons (ps_set (i := 9) sc_law_facts.nd rfl (Or.inl rfl) (pe_call (ok_law_some T) (hr.mono (by decide)) (by rfl) T.m_law_some T.F_law_some.kp T.b_law_some .nil pass0 (pa_cons (pv 0) (pa_cons (pe_op op_cat (pv 7) (pe_slice sl_list (pv 3) po_none (po_some (pe_callTy (T := "int")  call_int1 (by rfl) T.n_int (by decide +kernel) (pa_cons (pe_cmpR op_eq (pe_call (ok_law_take T) (hr.mono (by decide)) (by rfl) T.m_law_take T.F_law_take.kp T.b_law_take .nil pass0 (pa_cons (pv 0) (pa_cons pe_int pa_nil))) pe_int (nomark _)) pa_nil))))) (pa_cons (pv 8) pa_nil)))))
      (pss_cons (ps_set (i := 10) sc_law_facts.nd rfl (Or.inl rfl) (pe_call (ok_law_some T) (hr.mono (by decide)) (by rfl) T.m_law_some T.F_law_some.kp T.b_law_some .nil pass0 (pa_cons (pv 0) (pa_cons (pe_op op_cat (pv 7) (pe_slice sl_list (pv 3) po_none (po_some (pe_callTy (T := "int")  call_int1 (by rfl) T.n_int (by decide +kernel) (pa_cons (pe_cmpR op_eq (pe_call (ok_law_take T) (hr.mono (by decide)) (by rfl) T.m_law_take T.F_law_take.kp T.b_law_take .nil pass0 (pa_cons (pv 0) (pa_cons pe_int pa_nil))) pe_int (nomark _)) pa_nil))))) (pa_cons (pe_ix ix_list (pe_lst (pa_cons pe_int (pa_cons pe_int (pa_cons pe_int pa_nil)))) (pe_call (ok_law_take T) (hr.mono (by decide)) (by rfl) T.m_law_take T.F_law_take.kp T.b_law_take .nil pass0 (pa_cons (pv 0) (pa_cons pe_int pa_nil))) (fun _ _ => rfl)) pa_nil)))))
      (pss_cons (ps_set (i := 11) sc_law_facts.nd rfl (Or.inl rfl) (pe_call (ok_law_some T) (hr.mono (by decide)) (by rfl) T.m_law_some T.F_law_some.kp T.b_law_some .nil pass0 (pa_cons (pv 0) (pa_cons (pe_op op_cat (pv 7) (pe_slice sl_list (pv 3) po_none (po_some pe_int))) (pa_cons (pe_op op_mul (pe_ix ix_list (pe_lst (pa_cons pe_int (pa_cons pe_int (pa_cons pe_int (pa_cons pe_int pa_nil))))) (pe_call (ok_law_take T) (hr.mono (by decide)) (by rfl) T.m_law_take T.F_law_take.kp T.b_law_take .nil pass0 (pa_cons (pv 0) (pa_cons pe_int pa_nil))) (fun _ _ => rfl)) (pe_callTy (T := "int")  call_int1 (by rfl) T.n_int (by decide +kernel) (pa_cons (pe_not (pv 4)) pa_nil))) pa_nil)))))
      (pss_cons (ps_set (i := 12) sc_law_facts.nd rfl (Or.inl rfl) (pe_call (ok_law_some T) (hr.mono (by decide)) (by rfl) T.m_law_some T.F_law_some.kp T.b_law_some .nil pass0 (pa_cons (pv 0) (pa_cons (pe_op op_cat (pv 7) (pv 3)) (pa_cons (pe_ix ix_list (pe_lst (pa_cons pe_int (pa_cons pe_int (pa_cons pe_int (pa_cons pe_int pa_nil))))) (pe_call (ok_law_take T) (hr.mono (by decide)) (by rfl) T.m_law_take T.F_law_take.kp T.b_law_take .nil pass0 (pa_cons (pv 0) (pa_cons pe_int pa_nil))) (fun _ _ => rfl)) pa_nil)))))
      (pss_cons (ps_set (i := 13) sc_law_facts.nd rfl (Or.inl rfl) (pe_ix ix_list (pe_lst (pa_cons pe_str (pa_cons pe_str (pa_cons pe_str (pa_cons pe_str (pa_cons pe_str pa_nil)))))) (pe_call (ok_law_take T) (hr.mono (by decide)) (by rfl) T.m_law_take T.F_law_take.kp T.b_law_take .nil pass0 (pa_cons (pv 0) (pa_cons pe_int pa_nil))) (fun _ _ => rfl)))
      (pss_cons (ps_set (i := 14) sc_law_facts.nd rfl (Or.inl rfl) (pe_mid (pe_ifExp (pt_cmpR op_eq (pv 13) pe_str (nomark _)) (pe_ix ix_list (pe_op op_cat (pv 7) (pv 3)) (pe_call (ok_law_take T) (hr.mono (by decide)) (by rfl) T.m_law_take T.F_law_take.kp T.b_law_take .nil pass0 (pa_cons (pv 0) (pa_cons (pe_op op_add (pe_callB (id := "len")  call_len_seq (by rfl) T.n_len (by decide +kernel) (pa_cons (pv 7) pa_nil)) pe_int) pa_nil))) (fun _ _ => rfl)) pe_non)))
      (pss_cons (ps_set (i := 15) sc_law_facts.nd rfl (Or.inl rfl) (pe_mid (pe_ifExp (pt_cmpR op_gt (pe_call (ok_law_take T) (hr.mono (by decide)) (by rfl) T.m_law_take T.F_law_take.kp T.b_law_take .nil pass0 (pa_cons (pv 0) (pa_cons pe_int pa_nil))) pe_int (nomark _)) (pe_call (ok_law_rule_parts T) (hr.mono (by decide)) (by rfl) T.m_law_rule_parts T.F_law_rule_parts.kp T.b_law_rule_parts .nil pass0 (pa_cons (pv 0) pa_nil)) pe_non)))
      (pss_one (ps_dput (hu_of hr) (pv 5) (pv 6) (pe_tup (pa_cons (pv 13) (pa_cons (pv 9) (pa_cons (pv 10) (pa_cons (pv 11) (pa_cons (pv 12) (pa_cons (pv 14) (pa_cons (pv 15) pa_nil)))))))) rfl))))))))))))
      (pss_one (ps_ret (pv 5)))))))), ?_⟩
    -- named = names(bag, 1 + take(bag, most))
    refine ⟨_, rfl, _, rfl, _, rfl, ?_⟩
    refine take_of (z := (k : Int)) B (by omega) (by omega) (by omega) fun r1 H1 a1 b1 B1 k1 => ?_
    obtain ⟨j1, rfl⟩ := Int.eq_ofNat_of_zero_le a1
    refine ⟨_, _, rfl, rfl, p, 1 + j1, n + 1, rfl, B1, by omega, by omega, fun ns l H2 hnl hnd hnm nl w2 B2 k2 => ?_⟩
    have kA := k1.trans k2
    have npl : l ≠ p := fun e => by
      obtain ⟨o, ho⟩ := B1.some
      rw [e, ho] at nl
      cases nl
    -- strange
    refine ⟨_, rfl, fun D nD => ?_⟩
    refine lc_it (walk_str (z := srettelS)) (fun j H' => Same H2 H' ∧ H' D = some (.lst ((((List.range j).map fun i => (⟨#[122 - i]⟩ : Str) ++ Str.ofString "zz").filter fun x => decide (x ∉ ns)).map V.str))) ⟨same_upd nD, upd_same⟩ (fun _ _ _ _ => trivial) ?_ ?_
    · rintro j x H4 H4' hj ⟨s4, w4⟩ ⟨rfl, c, hc', rfl⟩
      obtain ⟨hj26, rfl⟩ := srettel_get hc'
      refine ⟨rfl, ?_⟩
      have ltot : ((⟨#[122 - j]⟩ : Str).length + (Str.ofString "zz").length) ≤ sizeLine := by
        have h1 : (⟨#[122 - j]⟩ : Str).length = 1 := rfl
        rw [h1]
        decide +kernel
      refine ⟨_, rfl, _, _, rfl, rfl, ltot, _, rfl, l, _, rfl, .inl (SqL.of (s4 _ _ w2)), rfl, strs_flat ns, _, rfl, ?_⟩
      rw [range_map_succ', List.filter_append, List.map_append]
      show if (if true = true then !inV (.str ((⟨#[122 - j]⟩ : Str) ++ Str.ofString "zz")) (ns.map V.str) else _) = true then _ else _
      rw [if_pos rfl, inV_str]
      by_cases hin : (⟨#[122 - j]⟩ : Str) ++ Str.ofString "zz" ∈ ns
      · rw [decide_eq_true hin]
        refine iteF ⟨s4, ?_⟩
        rw [List.filter_cons_of_neg (p := fun x => decide (x ∉ ns)) (by rw [decide_eq_false (fun z => z hin)]; exact Bool.false_ne_true)]
        rw [List.filter_nil, List.map_nil, List.append_nil]
        exact w4
      · rw [decide_eq_false hin]
        refine iteT ?_
        refine ⟨_, rfl, _, _, rfl, rfl, ltot, _, w4, ?_, Same.own (q := D) (H1 := H4') s4 (mut_keep rfl) nD, ?_⟩
        · rw [List.length_map]
          refine Nat.lt_of_le_of_lt (List.length_filter_le _ _) ?_
          rw [List.length_map, List.length_range]
          exact small1000 (by omega)
        · rw [upd_same, List.filter_cons_of_pos (p := fun x => decide (x ∉ ns)) (decide_eq_true hin)]
          rfl
    rintro H4 ⟨s4, w4⟩
    rw [srettel_size] at w4
    have hpos := filter_free (rcands_nodup (Str.ofString "zz")) (ds := ns) (by unfold rcands; rw [List.length_map, List.length_range]; omega)
    have hcn := List.Nodup.sublist List.filter_sublist (rcands_nodup (Str.ofString "zz")) (l₁ := (rcands (Str.ofString "zz")).filter fun x => decide (x ∉ ns))
    have hcm : ∀ x ∈ (rcands (Str.ofString "zz")).filter fun x => decide (x ∉ ns), Nm x ∧ x ∉ ns := fun x hx => by
      obtain ⟨h1, h2⟩ := List.mem_filter.mp hx
      obtain ⟨i, hi, rfl⟩ := List.mem_map.mp h1
      exact ⟨rcand_nm (List.mem_range.mp hi), of_decide_eq_true h2⟩
    change H4 D = some (.lst (((rcands (Str.ofString "zz")).filter fun x => decide (x ∉ ns)).map V.str)) at w4
    generalize (rcands (Str.ofString "zz")).filter (fun x => decide (x ∉ ns)) = fs at hpos hcn hcm w4
    refine ⟨_, rfl, D, _, rfl, SqL.of w4, fun a na => ?_⟩
    rw [show cutV (fs.map V.str) none (some 2) = (fs.take 2).map V.str from cutV_strs fs 2]
    have ssn : (fs.take 2).Nodup := List.Nodup.sublist (List.take_sublist _ _) hcn
    have ssm : ∀ x ∈ fs.take 2, Nm x ∧ x ∉ ns := fun x hx => hcm x (List.mem_of_mem_take hx)
    have ssl : (fs.take 2).length ≤ 2 := by rw [List.length_take]; omega
    have ssp : 0 < (fs.take 2).length := by rw [List.length_take]; omega
    generalize fs.take 2 = ss at ssn ssm ssl ssp
    generalize hE5 : upd H4 a _ = H5
    have wa := new_at hE5
    have s5 := s4.trans (new_same hE5 na)
    have wl := s5 _ _ w2
    have npa : p ≠ a := (B2.same s4).ne na
    have nla : l ≠ a := ne_some (s4 _ _ w2) na
    -- loose
    refine ⟨_, rfl, ?_⟩
    refine take_of (z := 4) (B2.same s5) (by decide) (by decide) (by omega) fun r6 H6 a6 b6 B6 k6 => ?_
    have kB := (kA.same s5).trans k6
    have wl6 := k6 _ _ wl npl
    have wa6 := k6 _ _ wa npa.symm
    refine ⟨rfl, fun d nd => ?_⟩
    generalize decide (V.int r6 = V.int 0) = loose
    generalize hE7 : upd H6 d _ = H7
    have wd := new_at hE7
    have s7 := new_same hE7 nd
    have npd := B6.ne nd
    have nld : l ≠ d := ne_some wl6 nd
    have nad : a ≠ d := ne_some wa6 nd
    have ndH : H d = none := kB.free nd npd.symm
    -- for word in named
    refine ⟨_, rfl, l, rfl, ⟨_, SqL.of (s7 _ _ wl6)⟩, for_list (xs := ns.map V.str) (fun i σ H' => Bag (n + 300 + 100 * i) H' p ∧ Kp p H H' ∧ ∃ (us : List (Str × UF)) (kvs : List (Key × V)) (y6 y7 y8 y9 y10 y11 y12 y13 y14 y15 y16 : Option V), us.map (·.1) = ns.take i ∧ (∀ q ∈ us, UOk ns ss q.1 q.2) ∧ FactsAt H' kvs us ∧ H' d = some (.dK kvs) ∧ H' l = some (.lst (ns.map V.str)) ∧ H' a = some (.lst (ss.map V.str)) ∧
        σ = [some (.ref p), some (.int k), some (.ref l), some (.ref a), some (.bl loose), some (.ref d), y6, y7, y8, y9, y10, y11, y12, y13, y14, y15, y16])
      ⟨(B6.same s7).le (by omega), kB.same s7, [], [], none, none, none, none, none, none, none, none, none, none, none, rfl, (fun q hq => nomatch hq), .nil, wd, s7 _ _ wl6, s7 _ _ wa6, rfl⟩ ?_ ?_ ?_⟩
    · rintro i σ H' hi ⟨B8, k8, us, kvs, y6, y7, y8, y9, y10, y11, y12, y13, y14, y15, y16, hus, huo, hfa, wd8, wl8, wa8, rfl⟩
      exact SqL.of wl8
    · rintro i x σ H8 hi ⟨B8, k8, us, kvs, y6, y7, y8, y9, y10, y11, y12, y13, y14, y15, y16, hus, huo, hfa, wd8, wl8, wa8, rfl⟩
      obtain ⟨word, hword, rfl⟩ := map_str_get hi
      have hil : i < ns.length := by
        rw [List.getElem?_eq_some_iff] at hword
        exact hword.1
      have hwn : word ∈ ns := List.mem_of_getElem? hword
      -- pool
      refine ⟨_, rfl, l, rfl, ⟨_, SqL.of wl8⟩, fun D nD => ?_⟩
      refine lc_list (xs := ns.map V.str) (fun j H' => Same H8 H' ∧ H' D = some (.lst (((ns.take j).filter fun x => decide (x ≠ word)).map V.str))) ⟨same_upd nD, upd_same⟩ (fun j H' hj h => SqL.of (h.1 _ _ wl8)) ?_ ?_
      · rintro j x H9 hj ⟨s9, w9⟩
        obtain ⟨one, hone, rfl⟩ := map_str_get hj
        refine ⟨rfl, ?_⟩
        rw [take_filter_snoc _ hone]
        refine ⟨_, rfl, _, rfl, rfl, _, rfl, ?_⟩
        by_cases he : one = word
        · subst he
          rw [decide_eq_true (show V.str one = V.str one from rfl)]
          refine iteF ⟨s9, ?_⟩
          rw [if_neg (by rw [decide_eq_false (fun z => z rfl)]; exact Bool.false_ne_true), List.append_nil]
          exact w9
        · rw [decide_eq_false (fun z : V.str one = V.str word => he (by injection z))]
          refine iteT ⟨_, rfl, _, w9, ?_, Same.own (q := D) (H1 := H9) s9 (mut_keep rfl) nD, ?_⟩
          · rw [List.length_map]
            refine Nat.lt_of_le_of_lt (List.length_filter_le _ _) (Nat.lt_of_le_of_lt (List.length_take_le' ..) (small1000 ?_))
            omega
          · rw [upd_same, if_pos (decide_eq_true he), List.map_append]
            rfl
      rintro H9 ⟨s9, wp9⟩
      rw [List.length_map, List.take_length] at wp9
      have mixed := fun zs => mix_ok (zs := zs) hnd ssn hnm ssm (by omega) ssl hwn
      have plen : (ns.filter fun x => decide (x ≠ word)).length ≤ 20 := Nat.le_trans (List.length_filter_le _ _) (by omega)
      generalize hpool : (ns.filter fun x => decide (x ≠ word)) = pool at mixed wp9 plen
      have B9 := B8.same s9
      have npD : p ≠ D := B8.ne nD
      have wa9 := s9 _ _ wa8
      have wl9 := s9 _ _ wl8
      have wd9 := s9 _ _ wd8
      have fa9 := hfa.same s9
      -- wide
      refine ⟨by show 5 ≤ sizeLine; decide, fun l1 n1 => ⟨_, rfl, ?_⟩⟩
      refine pick_menu [V.int (0 : Nat), V.int (1 : Nat), V.int (1 : Nat), V.int (2 : Nat), V.int (4 : Nat)] B9 (by omega) n1 rfl (by decide) (by decide) fun wide H10 hwide B10 k10 => ?_
      obtain ⟨wd10, rfl, hwd⟩ : ∃ j : Nat, wide = .int j ∧ j ≤ 4 := by
        simp only [List.mem_cons, List.not_mem_nil, or_false] at hwide
        rcases hwide with rfl | rfl | rfl | rfl | rfl
        · exact ⟨0, rfl, by decide⟩
        · exact ⟨1, rfl, by decide⟩
        · exact ⟨1, rfl, by decide⟩
        · exact ⟨2, rfl, by decide⟩
        · exact ⟨4, rfl, by decide⟩
      -- musts
      refine ⟨_, rfl, _, rfl, _, rfl, _, rfl, ?_⟩
      refine take_of (z := 12) B10 (by decide) (by decide) (by omega) fun r11 H11 a11 b11 B11 k11 => ?_
      have kk11 := k10.trans k11
      refine ⟨rfl, .inr ⟨_, rfl, _, rfl, a, _, rfl, SqL.of (kk11 _ _ wa9 npa.symm), fun c1 n12 => ?_⟩⟩
      obtain ⟨m1, hm1⟩ := cutV_bit ss (decide (V.int r11 = V.int 0))
      rw [hm1]
      generalize hE12 : upd H11 c1 _ = H12
      have wc12 := new_at hE12
      have s12 := new_same hE12 n12
      have kk12 := kk11.same s12
      refine ⟨D, c1, _, _, rfl, rfl, kk12 _ _ wp9 npD.symm, wc12, by rw [List.length_map, List.length_map, List.length_take]; exact Nat.le_of_lt (small1000 (by omega)), fun c2 n13 => ?_⟩
      rw [← List.map_append]
      generalize hE13 : upd H12 c2 _ = H13
      have wc13 := new_at hE13
      have kk13 := kk12.same (new_same hE13 n13)
      have B13 := (B11.same s12).same (new_same hE13 n13)
      obtain ⟨x1, x2, x3, x4⟩ := mixed (ss.take m1) (List.take_sublist _ _)
      refine ⟨_, rfl, p, c2, wd10, _, _, rfl, B13, by omega, by omega, SqL.of wc13, ((B11.same s12).ne n13).symm, x1, x2, x3, fun musts t1 H14 u1 u2 u3 nt1 wt1 B14 k14 => ?_⟩
      have kk14 := kk13.trans k14
      have npt1 : t1 ≠ p := fun e => by
        rw [e] at wt1
        exact B14.notTup _ wt1
      have hmusts : ∀ x ∈ musts, (x ∈ ns ∨ x ∈ ss) ∧ x ≠ word := fun x hx => x4 x (u2 x hx)
      -- likes
      refine ⟨_, rfl, _, rfl, _, rfl, _, rfl, ?_⟩
      refine take_of (z := 3) B14 (by decide) (by decide) (by omega) fun r15 H15 a15 b15 B15 k15 => ?_
      have kk15 := kk14.trans k15
      refine ⟨rfl, .inr ⟨_, rfl, _, rfl, a, _, rfl, SqL.of (kk15 _ _ wa9 npa.symm), fun c3 n16 => ?_⟩⟩
      obtain ⟨m2, hm2⟩ := cutV_bit ss (decide (V.int r15 = V.int 0))
      rw [hm2]
      generalize hE16 : upd H15 c3 _ = H16
      have wc16 := new_at hE16
      have s16 := new_same hE16 n16
      have kk16 := kk15.same s16
      refine ⟨D, c3, _, _, rfl, rfl, kk16 _ _ wp9 npD.symm, wc16, by rw [List.length_map, List.length_map, List.length_take]; exact Nat.le_of_lt (small1000 (by omega)), fun c4 n17 => ?_⟩
      rw [← List.map_append]
      generalize hE17 : upd H16 c4 _ = H17
      have wc17 := new_at hE17
      have s17 := new_same hE17 n17
      have kk17 := kk16.same s17
      have B17 := (B15.same s16).same s17
      have np4 : p ≠ c4 := (B15.same s16).ne n17
      obtain ⟨x5, x6, x7, x8⟩ := mixed (ss.take m2) (List.take_sublist _ _)
      refine ⟨by show 3 ≤ sizeLine; decide, fun l2 n2 => ⟨_, rfl, ?_⟩⟩
      refine pick_menu [V.int (1 : Nat), V.int (3 : Nat), V.int (8 : Nat)] B17 (by omega) n2 rfl (by decide) (by decide) fun wide2 H18 hwide2 B18 k18 => ?_
      obtain ⟨wd18, rfl, hwd18⟩ : ∃ j : Nat, wide2 = .int j ∧ j ≤ 8 := by
        simp only [List.mem_cons, List.not_mem_nil, or_false] at hwide2
        rcases hwide2 with rfl | rfl | rfl
        · exact ⟨1, rfl, by decide⟩
        · exact ⟨3, rfl, by decide⟩
        · exact ⟨8, rfl, by decide⟩
      refine ⟨p, c4, wd18, _, _, rfl, B18, by omega, by omega, SqL.of (k18 _ _ wc17 np4.symm), np4.symm, x5, x6, x7, fun likes t2 H19 u4 u5 u6 nt2 wt2 B19 k19 => ?_⟩
      have kk19 := (kk17.trans k18).trans k19
      have kl19 : Kp p H14 H19 := (((k15.same s16).same s17).trans k18).trans k19
      have npt2 : t2 ≠ p := fun e => by
        rw [e] at wt2
        exact B19.notTup _ wt2
      have hlikes : ∀ x ∈ likes, (x ∈ ns ∨ x ∈ ss) ∧ x ≠ word := fun x hx => x8 x (u5 x hx)
      have wt1b := kl19 _ _ wt1 npt1
      -- foes
      refine ⟨_, rfl, _, rfl, _, rfl, _, rfl, a, _, rfl, SqL.of (kk19 _ _ wa9 npa.symm), fun c5 n20 => ?_⟩
      rw [show cutV (ss.map V.str) none (some 1) = (ss.take 1).map V.str from cutV_strs ss 1]
      generalize hE20 : upd H19 c5 _ = H20
      have wc20 := new_at hE20
      have s20 := new_same hE20 n20
      have kk20 := kk19.same s20
      refine ⟨D, c5, _, _, rfl, rfl, kk20 _ _ wp9 npD.symm, wc20, by rw [List.length_map, List.length_map, List.length_take]; exact Nat.le_of_lt (small1000 (by omega)), fun c6 n21 => ?_⟩
      rw [← List.map_append]
      generalize hE21 : upd H20 c6 _ = H21
      have wc21 := new_at hE21
      have s21 := new_same hE21 n21
      have B21 := (B19.same s20).same s21
      have np6 : p ≠ c6 := (B19.same s20).ne n21
      obtain ⟨x9, x10, x11, x12⟩ := mixed (ss.take 1) (List.take_sublist _ _)
      refine ⟨by show 4 ≤ sizeLine; decide, fun l3 n3 => ⟨_, rfl, ?_⟩⟩
      refine pick_menu [V.int (0 : Nat), V.int (0 : Nat), V.int (1 : Nat), V.int (2 : Nat)] B21 (by omega) n3 rfl (by decide) (by decide) fun wide3 H22 hwide3 B22 k22 => ?_
      obtain ⟨wd22, rfl, hwd22⟩ : ∃ j : Nat, wide3 = .int j ∧ j ≤ 2 := by
        simp only [List.mem_cons, List.not_mem_nil, or_false] at hwide3
        rcases hwide3 with rfl | rfl | rfl | rfl
        · exact ⟨0, rfl, by decide⟩
        · exact ⟨0, rfl, by decide⟩
        · exact ⟨1, rfl, by decide⟩
        · exact ⟨2, rfl, by decide⟩
      obtain ⟨wd23, e23, hwd23⟩ : ∃ j : Nat, ((wd22 : Nat) : Int) * (if (!loose) = true then 1 else 0) = (j : Int) ∧ j ≤ 2 := by
        cases loose
        · exact ⟨wd22, Int.mul_one _, hwd22⟩
        · exact ⟨0, Int.mul_zero _, by decide⟩
      refine ⟨_, rfl, _, rfl, .inr ⟨_, rfl, _, _, rfl, rfl, cmul_b, ?_⟩⟩
      refine ⟨p, c6, wd23, _, _, (by show [V.ref p, V.ref c6, V.int _] = _; rw [e23]), B22, by omega, by omega, SqL.of (k22 _ _ wc21 np6.symm), np6.symm, x9, x10, x11, fun foes t3 H24 u7 u8 u9 nt3 wt3 B24 k24 => ?_⟩
      have kl24 : Kp p H19 H24 := (((Kp.of s20).same s21).trans k22).trans k24
      have kk24 := kk19.trans kl24
      have npt3 : t3 ≠ p := fun e => by
        rw [e] at wt3
        exact B24.notTup _ wt3
      have hfoes : ∀ x ∈ foes, (x ∈ ns ∨ x ∈ ss) ∧ x ≠ word := fun x hx => x12 x (u8 x hx)
      have wt1c := kl24 _ _ wt1b npt1
      have wt2c := kl24 _ _ wt2 npt2
      -- elders
      refine ⟨_, rfl, _, rfl, _, rfl, D, a, _, _, rfl, rfl, kk24 _ _ wp9 npD.symm, kk24 _ _ wa9 npa.symm, by rw [List.length_map, List.length_map]; exact Nat.le_of_lt (small1000 (by omega)), fun c7 n25 => ?_⟩
      rw [← List.map_append]
      generalize hE25 : upd H24 c7 _ = H25
      have wc25 := new_at hE25
      have s25 := new_same hE25 n25
      have np7 : p ≠ c7 := B24.ne n25
      obtain ⟨x13, x14, x15, x16⟩ := mixed ss (List.Sublist.refl _)
      refine ⟨by show 4 ≤ sizeLine; decide, fun l4 n4 => ⟨_, rfl, ?_⟩⟩
      refine pick_menu [V.int (0 : Nat), V.int (1 : Nat), V.int (2 : Nat), V.int (8 : Nat)] (B24.same s25) (by omega) n4 rfl (by decide) (by decide) fun wide4 H26 hwide4 B26 k26 => ?_
      obtain ⟨wd26, rfl, hwd26⟩ : ∃ j : Nat, wide4 = .int j ∧ j ≤ 8 := by
        simp only [List.mem_cons, List.not_mem_nil, or_false] at hwide4
        rcases hwide4 with rfl | rfl | rfl | rfl
        · exact ⟨0, rfl, by decide⟩
        · exact ⟨1, rfl, by decide⟩
        · exact ⟨2, rfl, by decide⟩
        · exact ⟨8, rfl, by decide⟩
      refine ⟨p, c7, wd26, _, _, rfl, B26, by omega, by omega, SqL.of (k26 _ _ wc25 np7.symm), np7.symm, x13, x14, x15, fun elders t4 H27 u10 u11 u12 nt4 wt4 B27 k27 => ?_⟩
      have kl27 : Kp p H24 H27 := ((Kp.of s25).trans k26).trans k27
      have kk27 := kk24.trans kl27
      have npt4 : t4 ≠ p := fun e => by
        rw [e] at wt4
        exact B27.notTup _ wt4
      have helders : ∀ x ∈ elders, (x ∈ ns ∨ x ∈ ss) ∧ x ≠ word := fun x hx => x16 x (u11 x hx)
      have wt1d := kl27 _ _ wt1c npt1
      have wt2d := kl27 _ _ wt2c npt2
      have wt3d := kl27 _ _ wt3 npt3
      -- sort
      refine ⟨by show 5 ≤ sizeLine; decide, fun l5 n5 => ⟨_, rfl, ?_⟩⟩
      refine pick_menu [V.str (Str.ofString "work"), V.str (Str.ofString "work"), V.str (Str.ofString "work"), V.str (Str.ofString "goal"), V.str (Str.ofString "door")] B27 (by omega) n5 rfl (by decide) (by decide) fun sortV H28 hsort B28 k28 => ?_
      obtain ⟨sort, rfl, hsort'⟩ : ∃ z : Str, sortV = .str z ∧ (z = Str.ofString "work" ∨ z = Str.ofString "goal" ∨ z = Str.ofString "door") := by
        simp only [List.mem_cons, List.not_mem_nil, or_false] at hsort
        rcases hsort with rfl | rfl | rfl | rfl | rfl
        · exact ⟨_, rfl, .inl rfl⟩
        · exact ⟨_, rfl, .inl rfl⟩
        · exact ⟨_, rfl, .inl rfl⟩
        · exact ⟨_, rfl, .inr (.inl rfl)⟩
        · exact ⟨_, rfl, .inr (.inr rfl)⟩
      have kk28 := kk27.trans k28
      have kl28 := k28
      -- goal
      refine ⟨fun v H' => Bag (n + 300 + 100 * i + 61) H' p ∧ Kp p H28 H' ∧ ∃ g : Option Str, v = optV g ∧ (∀ x ∈ g.toList, (x ∈ ns ∨ x ∈ ss) ∧ x ≠ word) ∧ (sort = Str.ofString "door" → g ≠ none) ∧ (sort ≠ Str.ofString "door" → g = none), ?_, ?_⟩
      · refine ⟨_, rfl, rfl, _, rfl, ?_⟩
        by_cases hdoor : sort = Str.ofString "door"
        · subst hdoor
          refine iteYd rfl ?_
          have wp28 := kk28 _ _ wp9 npD.symm
          refine ⟨_, rfl, _, rfl, D, a, _, _, rfl, rfl, wp28, kk28 _ _ wa9 npa.symm, by rw [List.length_map, List.length_map]; exact Nat.le_of_lt (small1000 (by omega)), fun c8 n29 => ?_⟩
          rw [← List.map_append]
          generalize hE29 : upd H28 c8 _ = H29
          have wc29 := new_at hE29
          have s29 := new_same hE29 n29
          have np8 : p ≠ c8 := B28.ne n29
          refine ⟨_, rfl, _, rfl, D, _, rfl, .inl (SqL.of (s29 _ _ wp28)), _, _, rfl, rfl, ?_⟩
          refine take_of (z := ((pool.map V.str).length : Int) + 1) (B28.same s29) (by omega) (by rw [List.length_map]; omega) (by omega) fun r30 H30 a30 b30 B30 k30 => ?_
          rw [List.length_map] at b30
          obtain ⟨z, hz, ez⟩ := menu_str (zs := pool ++ ss) a30 (by rw [List.length_append]; omega)
          exact ⟨c8, _, _, _, rfl, rfl, SqL.of (k30 _ _ wc29 np8.symm), ez, B30.le (by omega), (Kp.of s29).trans k30, some z, rfl, (fun x hx => by cases List.mem_singleton.mp hx; exact x16 _ hz), (fun _ e => nomatch e), (fun z => absurd rfl z)⟩
        · refine iteNd (fun z => hdoor (by injection z)) ?_
          exact ⟨B28.le (by omega), Kp.refl _ _, none, rfl, (fun x hx => nomatch hx), (fun z => absurd z hdoor), (fun _ => rfl)⟩
      rintro vg H29 ⟨B29, k29, goal, rfl, hgoal, hg1, hg2⟩
      have kl29 := kl28.trans k29
      -- five
      refine ⟨fun v H' => Bag (n + 300 + 100 * i + 80) H' p ∧ Kp p H29 H' ∧ ∃ o, FiveAt H' v o, ?_, ?_⟩
      · refine ⟨_, rfl, ?_⟩
        refine take_of (z := 3) B29 (by decide) (by decide) (by omega) fun r30 H30 a30 b30 B30 k30 => ?_
        refine ⟨_, _, rfl, rfl, _, rfl, ?_⟩
        refine ite2 (fun _ => ?_) (fun _ => ?_)
        · exact ⟨_, rfl, p, _, rfl, B30, by omega, fun f m t b s v H' F nv wv B' k' => ⟨B'.le (by omega), k30.trans k', some (f, m, t, b, s), v, rfl, wv, F⟩⟩
        · exact ⟨B30.le (by omega), k30, none, rfl⟩
      rintro vf H30 ⟨B30, k30, five, hfive⟩
      have kl30 := kl29.trans k30
      have kk30 := (kk28.trans k29).trans k30
      -- found[word] = (...)
      refine ⟨_, rfl, _, rfl, _, rfl, _, rfl, _, rfl, _, rfl, _, rfl, by show 7 ≤ sizeLine; decide, fun tt ntt => ?_⟩
      generalize hE31 : upd H30 tt _ = H31
      have wt31 := new_at hE31
      have s31 := new_same hE31 ntt
      have wd31 := s31 _ _ (kk30 _ _ wd9 npd.symm)
      have fa31 := (fa9.keep kk30 B9.notTup).same s31
      have hfree : word ∉ us.map (·.1) := by
        rw [hus]
        intro hm
        obtain ⟨j, hj, e⟩ := List.getElem_of_mem hm
        rw [List.length_take] at hj
        rw [List.getElem_take] at e
        have hji : j = i := by
          have h1 : ns[i]? = some word := hword
          have h2 : ns[j]? = some word := by rw [List.getElem?_eq_getElem (by omega), e]
          exact (List.getElem?_inj (by omega) hnd).mp (h2.trans h1.symm)
        omega
      have hul : kvs.length ≤ 20 := by
        have h1 := hfa.len
        have h2 := congrArg List.length hus
        rw [List.length_map, List.length_take] at h2
        omega
      refine ⟨_, rfl, _, rfl, d, _, rfl, DPut.k (k := Sum.inr word) wd31 (small1000 (by omega)), ?_⟩
      rw [putK_new _ (hfa.free hfree)]
      generalize hE32 : upd H31 d _ = H32
      have wd32 := new_at hE32
      have m32 := mut_keep hE32
      have nt32 := NotTup.dK wd31
      refine ⟨((B30.same s31).keep m32 npd).le (by omega), (((k8.same s9).trans kk30).same s31).own m32 ndH, us ++ [(word, ⟨sort, musts, likes, foes, elders, goal, five⟩)], _, _, _, _, _, _, _, _, _, _, _, _, ?_, ?_, .snoc (fa31.keep m32 nt32) ?_, wd32, m32 _ _ (s31 _ _ (kk30 _ _ wl9 npl)) nld, m32 _ _ (s31 _ _ (kk30 _ _ wa9 npa.symm)) nad, rfl⟩
      · rw [List.map_append, hus, List.take_add_one, hword]
        rfl
      · intro q hq
        rcases List.mem_append.mp hq with hq | hq
        · exact huo q hq
        · rw [List.mem_singleton.mp hq]
          refine ⟨hsort', u1, u4, u7, u10, by show musts.length ≤ 8; omega, by show likes.length ≤ 8; omega, by show foes.length ≤ 8; omega, by show elders.length ≤ 8; omega, fun x hx => ?_, hg1, hg2⟩
          rcases List.mem_append.mp hx with hx | hx
          · rcases List.mem_append.mp hx with hx | hx
            · rcases List.mem_append.mp hx with hx | hx
              · rcases List.mem_append.mp hx with hx | hx
                · exact hmusts x hx
                · exact hlikes x hx
              · exact hfoes x hx
            · exact helders x hx
          · exact hgoal x hx
      · refine FactAt.keep (FactAt.same (H := H31) ?_ (Same.refl _)) m32 nt32
        exact ⟨tt, t1, t2, t3, t4, vf, rfl, wt31, s31 _ _ (kl30 _ _ wt1d npt1), s31 _ _ (kl30 _ _ wt2d npt2), s31 _ _ (kl30 _ _ wt3d npt3), s31 _ _ (kl30 _ _ wt4 npt4), hfive.same s31⟩
    · rintro σ H8 ⟨B8, k8, us, kvs, y6, y7, y8, y9, y10, y11, y12, y13, y14, y15, y16, hus, huo, hfa, wd8, wl8, wa8, rfl⟩
      rw [List.length_map] at B8 hus
      rw [List.take_length] at hus
      exact ⟨_, rfl, q ns ss us kvs d H8 hus hnd hnm (by omega) (by omega) ssn ssm ssl huo hfa ndH wd8 (B8.le (by omega)) k8⟩

-- SPLIT
/-! ### a unit -/
abbrev uFs (w k n x b a o r : V) : List (Str × V) := [("name", w), ("kind", k), ("needs", n), ("wants", x), ("bars", b), ("after", a), ("opens", o), ("rule", r)]
def sp_Unit_init (K : PySem.W.Frag) : Sp := fun vs H Q _ => ∃ (p dx : Addr) (v1 v2 v3 v4 v5 v6 v7 v8 : V), vs = [.ref p, v1, v2, v3, v4, v5, v6, v7, v8] ∧ H p = some (.ins (He.ga K "Unit") dx []) ∧
  ∀ H', H' p = some (.ins (He.ga K "Unit") dx (uFs v1 v2 v3 v4 v5 v6 v7 v8)) → Kp p H H' → Q .non H'
theorem ok_Unit_init (T : Txt K mg) : FnOk P w K mg base CX0 1 (He.fAd K ("Unit", some "__init__")) T.d_Unit_init ["self", "name", "kind", "needs", "wants", "bars", "after", "opens", "rule"] (sp_Unit_init K) := by
  refine T.F_Unit_init.ok sc_Unit_init (fun vs H Q E h => ?_) (fun cdv A outer s H vs Q E hr h => ?_)
  · obtain ⟨p, dx, v1, v2, v3, v4, v5, v6, v7, v8, rfl, _⟩ := h
    rfl
  · obtain ⟨p, dx, v1, v2, v3, v4, v5, v6, v7, v8, rfl, hp, q⟩ := h
    refine ⟨_, PSs.nox (pss_cons (ps_fld (pv 0) (pv 1) rfl)
      (pss_cons (ps_fld (pv 0) (pv 2) rfl)
      (pss_cons (ps_fld (pv 0) (pv 3) rfl)
      (pss_cons (ps_fld (pv 0) (pv 4) rfl)
      (pss_cons (ps_fld (pv 0) (pv 5) rfl)
      (pss_cons (ps_fld (pv 0) (pv 6) rfl)
      (pss_cons (ps_fld (pv 0) (pv 7) rfl)
      (pss_one (ps_fld (pv 0) (pv 8) rfl))))))))), ?_⟩
    refine ⟨_, rfl, _, rfl, p, _, dx, [], rfl, hp, T.cl_Unit, T.na_Unit_name, (by show 0 < 1000; decide), ?_⟩
    refine ⟨_, rfl, _, rfl, p, _, dx, _, rfl, upd_same, T.cl_Unit, T.na_Unit_kind, (by show 1 < 1000; decide), ?_⟩
    refine ⟨_, rfl, _, rfl, p, _, dx, _, rfl, upd_same, T.cl_Unit, T.na_Unit_needs, (by show 2 < 1000; decide), ?_⟩
    refine ⟨_, rfl, _, rfl, p, _, dx, _, rfl, upd_same, T.cl_Unit, T.na_Unit_wants, (by show 3 < 1000; decide), ?_⟩
    refine ⟨_, rfl, _, rfl, p, _, dx, _, rfl, upd_same, T.cl_Unit, T.na_Unit_bars, (by show 4 < 1000; decide), ?_⟩
    refine ⟨_, rfl, _, rfl, p, _, dx, _, rfl, upd_same, T.cl_Unit, T.na_Unit_after, (by show 5 < 1000; decide), ?_⟩
    refine ⟨_, rfl, _, rfl, p, _, dx, _, rfl, upd_same, T.cl_Unit, T.na_Unit_opens, (by show 6 < 1000; decide), ?_⟩
    refine ⟨_, rfl, _, rfl, p, _, dx, _, rfl, upd_same, T.cl_Unit, T.na_Unit_rule, (by show 7 < 1000; decide), ?_⟩
    refine q _ upd_same fun c o h n => ?_
    rw [upd_ne n, upd_ne n, upd_ne n, upd_ne n, upd_ne n, upd_ne n, upd_ne n, upd_ne n]
    exact h
/-- the rule of a unit, or None -/
def RuleOpt (K : PySem.W.Frag) (H : Hp) : V → Option (Int × Int × Int × Int × Int) → Prop
  | v, none => v = .non
  | v, some (f, m, t, b, s) => ∃ r, v = .ref r ∧ RuleAt K H r f m t b s
theorem RuleOpt.same {H H' : Hp} {v : V} {o : Option (Int × Int × Int × Int × Int)} (h : RuleOpt K H v o) (s : Same H H') : RuleOpt K H' v o := by
  cases o with
  | none => exact h
  | some o =>
    obtain ⟨f, m, t, b, s'⟩ := o
    obtain ⟨p, e, hp⟩ := h
    exact ⟨p, e, hp.same s⟩
theorem RuleOpt.keep {H H' : Hp} {v : V} {o : Option (Int × Int × Int × Int × Int)} {q : Addr} (h : RuleOpt K H v o) (k : Kp q H H') (n : ∀ C dx fs, H q ≠ some (.ins C dx fs)) : RuleOpt K H' v o := by
  cases o with
  | none => exact h
  | some o =>
    obtain ⟨f, m, t, b, s'⟩ := o
    obtain ⟨p, e, dx, hp⟩ := h
    exact ⟨p, e, dx, k _ _ hp fun z => n _ _ _ (z ▸ hp)⟩
/-- a unit stands at a -/
def UnitAt (K : PySem.W.Frag) (H : Hp) (p : Addr) (w : Str) (u : UF) : Prop := ∃ (dx n x b a : Addr) (r : V), H p = some (.ins (He.ga K "Unit") dx (uFs (.str w) (.str u.kind) (.ref n) (.ref x) (.ref b) (.ref a) (optV u.opens) r)) ∧
  SqT K H n (u.needs.map V.str) ∧ SqT K H x (u.wants.map V.str) ∧ SqT K H b (u.bars.map V.str) ∧ SqT K H a (u.after.map V.str) ∧ RuleOpt K H r u.five
/-- the seven facts, whatever way their tuples stand -/
def FactS (K : PySem.W.Frag) (H : Hp) (v : V) (u : UF) : Prop := ∃ (t n x b a : Addr) (g : V), v = .ref t ∧ SqT K H t [.str u.kind, .ref n, .ref x, .ref b, .ref a, optV u.opens, g] ∧
  SqT K H n (u.needs.map V.str) ∧ SqT K H x (u.wants.map V.str) ∧ SqT K H b (u.bars.map V.str) ∧ SqT K H a (u.after.map V.str) ∧ FiveAt H g u.five
theorem FactAt.s {H : Hp} {v : V} {u : UF} (h : FactAt H v u) : FactS K H v u := by
  obtain ⟨t, n, x, b, a, g, e, h0, h1, h2, h3, h4, h5⟩ := h
  exact ⟨t, n, x, b, a, g, e, .of h0, .of h1, .of h2, .of h3, .of h4, h5⟩
def sp_law_unit (K : PySem.W.Frag) : Sp := fun vs H Q _ => ∃ (w : Str) (d : Addr) (v : V) (u : UF), vs = [.str w, .ref d] ∧ DGet H d (.str w) (some v) ∧ FactS K H v u ∧
  ∀ p H', H p = none → Same H H' → UnitAt K H' p w u → Q (.ref p) H'
theorem ok_law_unit (T : Txt K mg) : FnOk P w K mg base CX0 4 (He.fAd K ("_law_unit", none)) T.d_law_unit ["_law_word", "_law_facts_here"] (sp_law_unit K) := by
  refine T.F_law_unit.ok sc_law_unit (fun vs H Q E h => ?_) (fun cdv A outer s H vs Q E hr h => ?_)
  · obtain ⟨w, d, v, u, rfl, _⟩ := h
    rfl
  · obtain ⟨w, d, v, u, rfl, hd, hF, q⟩ := h
    refine ⟨_, PSs.nox (pss_cons (ps_asg (pe_dget (hu_of hr) (pv 1) (pv 0) (fun _ _ => rfl)) (pg_tup rfl (pgs_cons (pg_name (i := 2) sc_law_unit.nd rfl (Or.inl rfl)) (pgs_cons (pg_name (i := 3) sc_law_unit.nd rfl (Or.inl rfl)) (pgs_cons (pg_name (i := 4) sc_law_unit.nd rfl (Or.inl rfl)) (pgs_cons (pg_name (i := 5) sc_law_unit.nd rfl (Or.inl rfl)) (pgs_cons (pg_name (i := 6) sc_law_unit.nd rfl (Or.inl rfl)) (pgs_cons (pg_name (i := 7) sc_law_unit.nd rfl (Or.inl rfl)) (pgs_cons (pg_name (i := 8) sc_law_unit.nd rfl (Or.inl rfl)) pgs_nil)))))))))
      (pss_cons (ps_set (i := 9) sc_law_unit.nd rfl (Or.inl rfl) (pe_mid (pe_ifExp (pt_cmpR op_isN (pv 8) pe_non (nomark _)) pe_non (pe_call (ok_law_rule T) (hr.mono (by decide)) (by rfl) T.m_law_rule T.F_law_rule.kp T.b_law_rule .nil pass0 (pa_cons (pv 8) pa_nil)))))
      (pss_one (ps_ret (pe_makeK T.mk_Unit (ok_Unit_init T) (hr.mono (by decide)) (by rfl) T.m_Unit T.kb_Unit_init_2_kind_needs_wants_bars_after_opens_rule.choose_spec pass0 (pa_cons (pv 0) pa_nil) (pk_cons (pv 2) (pk_cons (pv 3) (pk_cons (pv 4) (pk_cons (pv 5) (pk_cons (pv 6) (pk_cons (pv 7) (pk_cons (pv 9) pk_nil)))))))))))), ?_⟩
    obtain ⟨t, n, x, b, a, g, rfl, wt, wn, wx, wb, wa, hg⟩ := hF
    refine ⟨_, rfl, _, rfl, d, _, rfl, hd, t, _, rfl, wt, rfl, _, _, rfl, _, _, rfl, _, _, rfl, _, _, rfl, _, _, rfl, _, _, rfl, _, _, rfl, rfl, ?_⟩
    refine ⟨fun v H' => Same H H' ∧ RuleOpt K H' v u.five, ?_, ?_⟩
    · refine ⟨_, rfl, rfl, _, rfl, ?_⟩
      cases h5 : u.five with
      | none =>
        rw [h5] at hg
        cases (show g = .non from hg)
        exact iteYd rfl ⟨Same.refl _, rfl⟩
      | some o =>
        obtain ⟨f, m, tp, br, sn⟩ := o
        rw [h5] at hg
        obtain ⟨v5, rfl, w5, F⟩ := hg
        refine iteNd (fun z => nomatch z) ⟨_, rfl, v5, f, m, tp, br, sn, rfl, SqT.of w5, fun r H' nr s' hr => ⟨s', r, rfl, hr⟩⟩
    rintro rv H1 ⟨s1, hr⟩
    refine ⟨_, rfl, _, rfl, _, rfl, _, rfl, _, rfl, _, rfl, _, rfl, _, rfl, rfl, rfl, fun p dx np nd ne => ?_⟩
    refine ⟨p, dx, _, _, _, _, _, _, _, _, rfl, upd_same, fun H' wp kp => ⟨rfl, ?_⟩⟩
    have s2 : Same H1 H' := Same.made np nd fun b o e n => kp b o e n
    have s3 := s1.trans s2
    exact q p H' (s1.free np) s3 ⟨dx, n, x, b, a, rv, wp, tup_same s3 wn, tup_same s3 wx, tup_same s3 wb, tup_same s3 wa, RuleOpt.same hr s2⟩
theorem UnitAt.same {H H' : Hp} {p : Addr} {w : Str} {u : UF} (h : UnitAt K H p w u) (s : Same H H') : UnitAt K H' p w u := by
  obtain ⟨dx, n, x, b, a, r, h0, h1, h2, h3, h4, h5⟩ := h
  exact ⟨dx, n, x, b, a, r, s _ _ h0, tup_same s h1, tup_same s h2, tup_same s h3, tup_same s h4, h5.same s⟩
theorem UnitAt.keep {H H' : Hp} {p q : Addr} {w : Str} {u : UF} {n : Nat} (h : UnitAt K H p w u) (k : Kp q H H') (B : Bag n H q) : UnitAt K H' p w u := by
  obtain ⟨_, _, _, hq, _⟩ := B.ex
  have nt := NotTp.lst hq
  obtain ⟨dx, n, x, b, a, r, h0, h1, h2, h3, h4, h5⟩ := h
  exact ⟨dx, n, x, b, a, r, k _ _ h0 (fun e => by rw [e, hq] at h0; cases h0), k.tup nt h1, k.tup nt h2, k.tup nt h3, k.tup nt h4, h5.keep k fun C dx fs e => by rw [hq] at e; cases e⟩

-- SPLIT
/-! ### the shelf -/
/-- no instance with fields -/
def NotIns (H : Hp) (q : Addr) : Prop := ∀ C dx f fs, H q ≠ some (.ins C dx (f :: fs))
theorem NotIns.lst {H : Hp} {q : Addr} {xs : List V} (h : H q = some (.lst xs)) : NotIns H q := fun C dx f fs e => by rw [h] at e; cases e
theorem NotIns.dK {H : Hp} {q : Addr} {xs : List (Key × V)} (h : H q = some (.dK xs)) : NotIns H q := fun C dx f fs e => by rw [h] at e; cases e
theorem NotIns.new {H : Hp} {q C dx : Addr} (h : H q = some (.ins C dx [])) : NotIns H q := fun C' dx' f fs e => by rw [h] at e; cases e
theorem RuleOpt.keepN {H H' : Hp} {v : V} {o : Option (Int × Int × Int × Int × Int)} {q : Addr} (h : RuleOpt K H v o) (k : Kp q H H') (n : NotIns H q) : RuleOpt K H' v o := by
  cases o with
  | none => exact h
  | some o =>
    obtain ⟨f, m, t, b, s'⟩ := o
    obtain ⟨p, e, dx, hp⟩ := h
    exact ⟨p, e, dx, k _ _ hp fun z => n _ _ _ _ (z ▸ hp)⟩
theorem UnitAt.keepN {H H' : Hp} {p q : Addr} {w : Str} {u : UF} (h : UnitAt K H p w u) (k : Kp q H H') (nt : NotTp H q) (ni : NotIns H q) : UnitAt K H' p w u := by
  obtain ⟨dx, n, x, b, a, r, h0, h1, h2, h3, h4, h5⟩ := h
  exact ⟨dx, n, x, b, a, r, k _ _ h0 (fun e => ni _ _ _ _ (e ▸ h0)), k.tup nt h1, k.tup nt h2, k.tup nt h3, k.tup nt h4, h5.keepN k ni⟩
/-- a list of units -/
inductive ULs (K : PySem.W.Frag) (H : Hp) : List V → List (Str × UF) → Prop
  | nil : ULs K H [] []
  | cons {a : Addr} {w : Str} {u : UF} {xs : List V} {us : List (Str × UF)} (e : UnitAt K H a w u) (h : ULs K H xs us) : ULs K H (.ref a :: xs) ((w, u) :: us)
theorem ULs.same {H H' : Hp} {xs : List V} {us : List (Str × UF)} (h : ULs K H xs us) (s : Same H H') : ULs K H' xs us := by
  induction h with
  | nil => exact .nil
  | cons e _ ih => exact .cons (e.same s) ih
theorem ULs.keepN {H H' : Hp} {q : Addr} {xs : List V} {us : List (Str × UF)} (h : ULs K H xs us) (k : Kp q H H') (nt : NotTp H q) (ni : NotIns H q) : ULs K H' xs us := by
  induction h with
  | nil => exact .nil
  | cons e _ ih => exact .cons (e.keepN k nt ni) ih
theorem ULs.len {H : Hp} {xs : List V} {us : List (Str × UF)} (h : ULs K H xs us) : xs.length = us.length := by
  induction h with
  | nil => rfl
  | cons _ _ ih => rw [List.length_cons, List.length_cons, ih]
theorem ULs.get {H : Hp} {xs : List V} {us : List (Str × UF)} (h : ULs K H xs us) {i : Nat} {x : V} (e : xs[i]? = some x) : ∃ a w u, x = .ref a ∧ us[i]? = some (w, u) ∧ UnitAt K H a w u := by
  induction h generalizing i with
  | nil => simp at e
  | @cons a w u _ _ r _ ih =>
    cases i with
    | zero =>
      cases e
      exact ⟨a, w, u, rfl, rfl, r⟩
    | succ i => exact ih e
theorem ULs.app {H : Hp} {xs ys : List V} {us vs : List (Str × UF)} (h : ULs K H xs us) (g : ULs K H ys vs) : ULs K H (xs ++ ys) (us ++ vs) := by
  induction h with
  | nil => exact g
  | cons e _ ih => exact .cons e ih
abbrev UTab (K : PySem.W.Frag) (H : Hp) : List (Key × V) → List (Str × UF) → Prop := Tab fun v w u => ∃ a, v = .ref a ∧ UnitAt K H a w u
def ShelfAt (K : PySem.W.Frag) (H : Hp) (p : Addr) (us : List (Str × UF)) : Prop := ∃ (dx d : Addr) (kvs : List (Key × V)), H p = some (.ins (He.ga K "Shelf") dx [("by_name", .ref d)]) ∧ H d = some (.dK kvs) ∧ UTab K H kvs us
theorem ShelfAt.same {H H' : Hp} {p : Addr} {us : List (Str × UF)} (h : ShelfAt K H p us) (s : Same H H') : ShelfAt K H' p us := by
  obtain ⟨dx, d, kvs, h1, h2, h3⟩ := h
  exact ⟨dx, d, kvs, s _ _ h1, s _ _ h2, h3.imp fun v w u ⟨a, e, r⟩ => ⟨a, e, r.same s⟩⟩
theorem ShelfAt.keepL {H H' : Hp} {p q : Addr} {us : List (Str × UF)} {xs : List V} (h : ShelfAt K H p us) (k : Kp q H H') (hq : H q = some (.lst xs)) : ShelfAt K H' p us := by
  obtain ⟨dx, d, kvs, h1, h2, h3⟩ := h
  refine ⟨dx, d, kvs, k _ _ h1 (fun e => by rw [e, hq] at h1; cases h1), k _ _ h2 (fun e => by rw [e, hq] at h2; cases h2), h3.imp fun v w u ⟨a, e, r⟩ => ⟨a, e, r.keepN k (.lst hq) (.lst hq)⟩⟩
theorem ShelfAt.keepB {H H' : Hp} {p q : Addr} {us : List (Str × UF)} {n : Nat} (h : ShelfAt K H p us) (k : Kp q H H') (B : Bag n H q) : ShelfAt K H' p us := by
  obtain ⟨_, _, _, hq, _⟩ := B.ex
  exact h.keepL k hq
/-- names unlike, at most sixteen -/
structure Nms (us : List (Str × UF)) : Prop where
  nd : (us.map (·.1)).Nodup
  few : us.length ≤ 16
  nm : ∀ x ∈ us.map (·.1), Nm x
theorem Nms.len {us : List (Str × UF)} (n : Nms us) : (us.map (·.1)).length ≤ 16 := by rw [List.length_map]; exact n.few
def sp_Shelf_init (K : PySem.W.Frag) : Sp := fun vs H Q _ => ∃ (p dx l : Addr) (xs : List V) (us : List (Str × UF)), vs = [.ref p, .ref l] ∧ H p = some (.ins (He.ga K "Shelf") dx []) ∧ (SqL K H l xs ∨ SqT K H l xs) ∧ ULs K H xs us ∧ Nms us ∧
  ∀ H', ShelfAt K H' p us → Kp p H H' → Q .non H'
theorem ok_Shelf_init (T : Txt K mg) : FnOk P w K mg base CX0 1 (He.fAd K ("Shelf", some "__init__")) T.d_Shelf_init ["self", "units"] (sp_Shelf_init K) := by
  refine T.F_Shelf_init.ok sc_Shelf_init (fun vs H Q E h => ?_) (fun cdv A outer s H vs Q E hr h => ?_)
  · obtain ⟨p, dx, l, xs, us, rfl, _⟩ := h
    rfl
  · obtain ⟨p, dx, l, xs, us, rfl, hp, hl, hU, hN, q⟩ := h
    refine ⟨_, PSs.nox (pss_cons (ps_set (i := 2) sc_Shelf_init.nd rfl (Or.inl rfl) pe_dnewK)
      (pss_cons (ps_for PassesOwn.never rfl (UP.pi_or (pi_list (pv 1)) (pi_tup (pv 1))) (pg_name (i := 3) sc_Shelf_init.nd rfl (Or.inl rfl))
      (pss_cons (ps_if (PW.pt (pw_or (pt_cmp (pc_din (hu_of hr) (pe_fld (pv 3) rfl) (pv 2))) (pw_or1 (pt_cmpR op_eq (pe_callB (id := "len")  call_lenD (by rfl) T.n_len (by decide +kernel) (pa_cons (pv 2) pa_nil)) (pe_glob (v := .int 16) (by rfl) T.c_MOST.choose_spec ⟨_, rfl⟩) (nomark _)))))
      (pss_one ps_never)
      pss_nil)
      (pss_one (ps_dput (hu_of hr) (pv 2) (pe_fld (pv 3) rfl) (pv 3) rfl))))
      (pss_one (ps_fld (pv 0) (pv 2) rfl)))), ?_⟩
    refine fun d nd => ?_
    generalize hE1 : upd H d _ = H1
    have wd := new_at hE1
    have s1 := new_same hE1 nd
    have npd : p ≠ d := ne_some hp nd
    rcases hl with hl | hl
    · refine .inl ⟨_, rfl, l, rfl, ⟨_, SqL.ext hl s1⟩, for_list (xs := xs) (fun i σ H' => Same H H' ∧ (∃ kvs, H' d = some (.dK kvs) ∧ UTab K H' kvs (us.take i)) ∧ ∃ y : Option V, σ = [some (.ref p), some (.ref l), some (.ref d), y])
        ⟨s1, ⟨[], wd, .nil⟩, none, rfl⟩ (fun i σ H' _ h => SqL.ext hl h.1) ?_ ?_⟩
      · rintro i x σ H2 hi ⟨s2, ⟨kvs, wd2, ht⟩, y, rfl⟩
        obtain ⟨a, w, u, rfl, hu, hA⟩ := hU.get hi
        obtain ⟨dxu, n1, n2, n3, n4, r, ha, _⟩ := id (hA.same s2)
        have hlt : i < us.length := by
          rw [List.getElem?_eq_some_iff] at hu
          exact hu.1
        have hfree : w ∉ (us.take i).map (·.1) := fun hm => by
          obtain ⟨j, hj, e⟩ := List.getElem_of_mem hm
          rw [List.length_map, List.length_take] at hj
          have hn := hN.nd
          have e1 : (us.map (·.1))[i]? = some w := by rw [List.getElem?_map, hu]; rfl
          have e2 : (us.map (·.1))[j]? = some w := by
            rw [List.getElem?_map, List.getElem?_eq_getElem (by omega)]
            rw [List.getElem_map, List.getElem_take] at e
            rw [← e]
            rfl
          have := (List.getElem?_inj (by rw [List.length_map]; omega) hn).mp (e2.trans e1.symm)
          omega
        have few := hN.few
        have hkl : kvs.length = i := by
          rw [ht.len, List.length_take]
          omega
        have hnone := ht.free hfree
        -- if unit.name in by_name or len(by_name) == MOST
        refine ⟨_, rfl, a, _, dxu, _, _, rfl, ha, T.cl_Unit, T.na_Unit_name, rfl, _, rfl, d, _, rfl, DGet.k (k := Sum.inr w) wd2, ?_⟩
        rw [hnone]
        refine ⟨_, rfl, iteF ?_⟩
        refine ⟨_, rfl, d, kvs, rfl, wd2, rfl, _, rfl, ?_⟩
        rw [decide_eq_false (show ¬ V.int (kvs.length : Int) = V.int 16 from fun z => by injection z with z; omega)]
        refine iteF ?_
        -- by_name[unit.name] = unit
        refine ⟨_, rfl, _, rfl, _, rfl, a, _, dxu, _, _, rfl, ha, T.cl_Unit, T.na_Unit_name, rfl, d, _, rfl, DPut.k (k := Sum.inr w) wd2 (small1000 (by omega)), ?_⟩
        rw [putK_new _ hnone]
        generalize hE3 : upd H2 d _ = H3
        have wd3 := new_at hE3
        have m3 := mut_keep hE3
        refine ⟨Same.own s2 m3 nd, ⟨_, wd3, ?_⟩, _, rfl⟩
        rw [take_snoc hu]
        exact (ht.imp fun v w u ⟨a, e, r⟩ => ⟨a, e, r.keepN m3 (.dK wd2) (.dK wd2)⟩).app (.cons ⟨a, rfl, (hA.same s2).keepN m3 (.dK wd2) (.dK wd2)⟩ .nil)
      · rintro σ H2 ⟨s2, ⟨kvs, wd2, ht⟩, y, rfl⟩
        rw [hU.len, List.take_length] at ht
        have hp2 := s2 _ _ hp
        refine ⟨_, rfl, _, rfl, p, _, dx, [], rfl, hp2, T.cl_Shelf, T.na_Shelf_by_name, (by show 0 < 1000; decide), ?_⟩
        generalize hE3 : upd H2 p _ = H3
        have m3 := mut_keep hE3
        exact q H3 ⟨dx, d, kvs, new_at hE3, m3 _ _ wd2 npd.symm, ht.imp fun v w u ⟨a, e, r⟩ => ⟨a, e, r.keepN m3 (.ins hp2) (.new hp2)⟩⟩ ((Kp.of s2).trans m3)
    · refine .inr ⟨_, rfl, l, rfl, ⟨_, tup_same s1 hl⟩, for_tup (xs := xs) (fun i σ H' => Same H H' ∧ (∃ kvs, H' d = some (.dK kvs) ∧ UTab K H' kvs (us.take i)) ∧ ∃ y : Option V, σ = [some (.ref p), some (.ref l), some (.ref d), y])
        ⟨s1, ⟨[], wd, .nil⟩, none, rfl⟩ (fun i σ H' _ h => tup_same h.1 hl) ?_ ?_⟩
      · rintro i x σ H2 hi ⟨s2, ⟨kvs, wd2, ht⟩, y, rfl⟩
        obtain ⟨a, w, u, rfl, hu, hA⟩ := hU.get hi
        obtain ⟨dxu, n1, n2, n3, n4, r, ha, _⟩ := id (hA.same s2)
        have hlt : i < us.length := by
          rw [List.getElem?_eq_some_iff] at hu
          exact hu.1
        have hfree : w ∉ (us.take i).map (·.1) := fun hm => by
          obtain ⟨j, hj, e⟩ := List.getElem_of_mem hm
          rw [List.length_map, List.length_take] at hj
          have hn := hN.nd
          have e1 : (us.map (·.1))[i]? = some w := by rw [List.getElem?_map, hu]; rfl
          have e2 : (us.map (·.1))[j]? = some w := by
            rw [List.getElem?_map, List.getElem?_eq_getElem (by omega)]
            rw [List.getElem_map, List.getElem_take] at e
            rw [← e]
            rfl
          have := (List.getElem?_inj (by rw [List.length_map]; omega) hn).mp (e2.trans e1.symm)
          omega
        have few := hN.few
        have hkl : kvs.length = i := by
          rw [ht.len, List.length_take]
          omega
        have hnone := ht.free hfree
        -- if unit.name in by_name or len(by_name) == MOST
        refine ⟨_, rfl, a, _, dxu, _, _, rfl, ha, T.cl_Unit, T.na_Unit_name, rfl, _, rfl, d, _, rfl, DGet.k (k := Sum.inr w) wd2, ?_⟩
        rw [hnone]
        refine ⟨_, rfl, iteF ?_⟩
        refine ⟨_, rfl, d, kvs, rfl, wd2, rfl, _, rfl, ?_⟩
        rw [decide_eq_false (show ¬ V.int (kvs.length : Int) = V.int 16 from fun z => by injection z with z; omega)]
        refine iteF ?_
        -- by_name[unit.name] = unit
        refine ⟨_, rfl, _, rfl, _, rfl, a, _, dxu, _, _, rfl, ha, T.cl_Unit, T.na_Unit_name, rfl, d, _, rfl, DPut.k (k := Sum.inr w) wd2 (small1000 (by omega)), ?_⟩
        rw [putK_new _ hnone]
        generalize hE3 : upd H2 d _ = H3
        have wd3 := new_at hE3
        have m3 := mut_keep hE3
        refine ⟨Same.own s2 m3 nd, ⟨_, wd3, ?_⟩, _, rfl⟩
        rw [take_snoc hu]
        exact (ht.imp fun v w u ⟨a, e, r⟩ => ⟨a, e, r.keepN m3 (.dK wd2) (.dK wd2)⟩).app (.cons ⟨a, rfl, (hA.same s2).keepN m3 (.dK wd2) (.dK wd2)⟩ .nil)
      · rintro σ H2 ⟨s2, ⟨kvs, wd2, ht⟩, y, rfl⟩
        rw [hU.len, List.take_length] at ht
        have hp2 := s2 _ _ hp
        refine ⟨_, rfl, _, rfl, p, _, dx, [], rfl, hp2, T.cl_Shelf, T.na_Shelf_by_name, (by show 0 < 1000; decide), ?_⟩
        generalize hE3 : upd H2 p _ = H3
        have m3 := mut_keep hE3
        exact q H3 ⟨dx, d, kvs, new_at hE3, m3 _ _ wd2 npd.symm, ht.imp fun v w u ⟨a, e, r⟩ => ⟨a, e, r.keepN m3 (.ins hp2) (.new hp2)⟩⟩ ((Kp.of s2).trans m3)
def sp_Shelf_names (K : PySem.W.Frag) : Sp := fun vs H Q _ => ∃ (p : Addr) (us : List (Str × UF)), vs = [.ref p] ∧ ShelfAt K H p us ∧ Nms us ∧
  ∀ l H', H l = none → Same H H' → H' l = some (.lst ((srt (us.map (·.1))).map V.str)) → Q (.ref l) H'
theorem ok_Shelf_names (T : Txt K mg) : FnOk P w K mg base CX0 1 (He.fAd K ("Shelf", some "names")) T.d_Shelf_names ["self"] (sp_Shelf_names K) := by
  refine T.F_Shelf_names.ok sc_Shelf_names (fun vs H Q E h => ?_) (fun cdv A outer s H vs Q E hr h => ?_)
  · obtain ⟨p, us, rfl, _⟩ := h
    rfl
  · obtain ⟨p, us, rfl, hS, hN, q⟩ := h
    refine ⟨_, PSs.nox (pss_one (ps_ret (pe_callB (id := "sorted")  (call_sortedD rfl) (by rfl) T.n_sorted (by decide +kernel) (pa_cons (pe_fld (pv 0) rfl) pa_nil)))), ?_⟩
    obtain ⟨dx, d, kvs, hp, hd, ht⟩ := id hS
    have few := hN.len
    refine ⟨_, rfl, p, _, dx, _, _, rfl, hp, T.cl_Shelf, T.na_Shelf_by_name, rfl, d, kvs, us.map (·.1), rfl, .inl hd, ht.keys, by omega, fun ys l hy hs nl => ?_⟩
    obtain rfl := srt_of hy hs
    exact q l _ nl (same_upd nl) upd_same
def sp_Shelf_has (K : PySem.W.Frag) : Sp := fun vs H Q _ => ∃ (p : Addr) (w : Str) (us : List (Str × UF)), vs = [.ref p, .str w] ∧ ShelfAt K H p us ∧ Nms us ∧ Q (.bl (decide (w ∈ us.map (·.1)))) H
theorem Nms.val {R : V → Str → UF → Prop} {kvs : List (Key × V)} {us : List (Str × UF)} (n : Nms us) (h : Tab R kvs us) (w : Str) : (valV kvs (Sum.inr w : Key)).isSome = decide (w ∈ us.map (·.1)) := by
  by_cases c : w ∈ us.map (·.1)
  · obtain ⟨p, hp, rfl⟩ := List.mem_map.mp c
    obtain ⟨v, hv, _⟩ := h.get n.nd p hp
    rw [hv, decide_eq_true c]
    rfl
  · rw [h.free c, decide_eq_false c]
    rfl
theorem ok_Shelf_has (T : Txt K mg) : FnOk P w K mg base CX0 1 (He.fAd K ("Shelf", some "has")) T.d_Shelf_has ["self", "name"] (sp_Shelf_has K) := by
  refine T.F_Shelf_has.ok sc_Shelf_has (fun vs H Q E h => ?_) (fun cdv A outer s H vs Q E hr h => ?_)
  · obtain ⟨p, w, us, rfl, _⟩ := h
    rfl
  · obtain ⟨p, w, us, rfl, hS, hN, q⟩ := h
    refine ⟨_, PSs.nox (pss_one (ps_ret (pe_mid (pe_and (pe_callB (id := "isinstance")  call_isi (by rfl) T.n_isinstance (by decide +kernel) (pa_cons (pv 1) (pa_cons (pe_bltn (v := .ty "str") (u := .type "str") (by rfl) T.n_str (by decide +kernel) rfl) pa_nil))) (pe_one (pe_cmp (pc_din (hu_of hr) (pv 1) (pe_fld (pv 0) rfl)))))))), ?_⟩
    obtain ⟨dx, d, kvs, hp, hd, ht⟩ := id hS
    refine ⟨fun v H' => H' = H ∧ v = .bl (decide (w ∈ us.map (·.1))), ?_, ?_⟩
    · refine ⟨_, rfl, _, _, _, _, true, rfl, .ty "str", .base (.str _), kit_ty (by decide +kernel), true, rfl, iteT ?_⟩
      refine ⟨_, rfl, _, rfl, p, _, dx, _, _, rfl, hp, T.cl_Shelf, T.na_Shelf_by_name, rfl, d, _, rfl, DGet.k (k := Sum.inr w) hd, rfl, ?_⟩
      rw [hN.val ht w]
    · rintro v H' ⟨rfl, rfl⟩
      exact q
def sp_Shelf_unit (K : PySem.W.Frag) : Sp := fun vs H Q _ => ∃ (p : Addr) (w : Str) (us : List (Str × UF)), vs = [.ref p, .str w] ∧ ShelfAt K H p us ∧ Nms us ∧ w ∈ us.map (·.1) ∧
  ∀ a u, (w, u) ∈ us → UnitAt K H a w u → Q (.ref a) H
theorem ok_Shelf_unit (T : Txt K mg) : FnOk P w K mg base CX0 2 (He.fAd K ("Shelf", some "unit")) T.d_Shelf_unit ["self", "name"] (sp_Shelf_unit K) := by
  refine T.F_Shelf_unit.ok sc_Shelf_unit (fun vs H Q E h => ?_) (fun cdv A outer s H vs Q E hr h => ?_)
  · obtain ⟨p, w, us, rfl, _⟩ := h
    rfl
  · obtain ⟨p, w, us, rfl, hS, hN, hw, q⟩ := h
    refine ⟨_, PSs.nox (pss_cons (ps_if (pt_not (pt_val (pe_meth (pv 0) T.cl_Shelf T.me_Shelf_has (ok_Shelf_has T) (hr.mono (by decide)) T.b_Shelf_has .nil pass0 (pa_cons (pv 1) pa_nil))))
      (pss_one ps_never)
      pss_nil)
      (pss_one (ps_ret (pe_dget (hu_of hr) (pe_fld (pv 0) rfl) (pv 1) (fun _ _ => rfl))))), ?_⟩
    obtain ⟨dx, d, kvs, hp, hd, ht⟩ := id hS
    obtain ⟨u, hu⟩ : ∃ u, (w, u) ∈ us := by
      obtain ⟨r, hr, rfl⟩ := List.mem_map.mp hw
      exact ⟨r.2, hr⟩
    obtain ⟨v, hv, a, rfl, hA⟩ := ht.get hN.nd (w, u) hu
    refine ⟨_, rfl, p, dx, _, rfl, hp, rfl, _, rfl, p, w, us, rfl, hS, hN, ?_⟩
    rw [decide_eq_true hw]
    refine ⟨true, rfl, iteF ?_⟩
    refine ⟨_, rfl, p, _, dx, _, _, rfl, hp, T.cl_Shelf, T.na_Shelf_by_name, rfl, _, rfl, d, .ref a, rfl, by rw [← hv]; exact DGet.k (k := Sum.inr w) hd, ?_⟩
    exact q a u hu hA
def sp_Shelf_waited (K : PySem.W.Frag) : Sp := fun vs H Q _ => ∃ (p : Addr) (w : Str) (us : List (Str × UF)), vs = [.ref p, .str w] ∧ ShelfAt K H p us ∧ Nms us ∧ w ∈ us.map (·.1) ∧
  ∀ l H', H l = none → Same H H' → H' l = some (.lst ((wt us w).map V.str)) → Q (.ref l) H'
theorem ok_Shelf_waited (T : Txt K mg) : FnOk P w K mg base CX0 3 (He.fAd K ("Shelf", some "waited")) T.d_Shelf_waited ["self", "name"] (sp_Shelf_waited K) := by
  refine T.F_Shelf_waited.ok sc_Shelf_waited (fun vs H Q E h => ?_) (fun cdv A outer s H vs Q E hr h => ?_)
  · obtain ⟨p, w, us, rfl, _⟩ := h
    rfl
  · obtain ⟨p, w, us, rfl, hS, hN, hw, q⟩ := h
    refine ⟨_, PSs.nox (pss_cons (ps_set (i := 2) sc_Shelf_waited.nd rfl (Or.inr rfl) (pe_meth (pv 0) T.cl_Shelf T.me_Shelf_unit (ok_Shelf_unit T) (hr.mono (by decide)) T.b_Shelf_unit .nil pass0 (pa_cons (pv 1) pa_nil)))
      (pss_one (ps_ret (pe_lc (own := [("other", 3)]) (by rfl) sc_Shelf_waited.nd (pi_list (pe_meth0 (pv 0) T.cl_Shelf T.me_Shelf_names (ok_Shelf_names T) (hr.mono (by decide)) T.b_Shelf_names .nil pass0)) (blkOk_by (own := [("other", 3)]) (N := N_Shelf_waited) (sc := defScope s_Shelf_waited) (by decide +kernel)) (fun _ _ _ _ _ => (pg_name (i := 3) sc_Shelf_waited.nd rfl (Or.inl rfl))) (fun _ _ _ _ _ => by exact (pts_one (PW.pt (pw_or (pt_cmpR (r := rIn K false) op_in_seq (pv 3) (UP.pe_fldK (K := K) (by rfl) (pv 2) (by rfl)) (by rfl)) (pw_or (pt_cmpR (r := rIn K false) op_in_seq (pv 3) (UP.pe_fldK (K := K) (by rfl) (pv 2) (by rfl)) (by rfl)) (pw_or1 (pt_cmpR op_eq (UP.pe_fldK (K := K) (by rfl) (pe_dget (hu_of hr) (UP.pe_fldK (K := K) (by rfl) (pv 0) (by rfl)) (pv 3) (fun _ _ => rfl)) (by rfl)) (pv 1) (nomark _)))))))) (fun _ _ _ _ _ => (pv 3)))))), ?_⟩
    obtain ⟨dx, d, kvs, hp, hd, ht⟩ := id hS
    refine ⟨_, rfl, p, dx, _, rfl, hp, rfl, _, rfl, p, w, us, rfl, hS, hN, hw, fun a u hu hA => ?_⟩
    have hfu : fu us w = some u := fu_some hN.nd hu
    obtain ⟨dxu, n1, n2, n3, n4, r, ha, hn1, hn2, hn3, hn4, _⟩ := id hA
    refine ⟨_, rfl, p, dx, _, rfl, hp, rfl, p, us, rfl, hS, hN, fun l H1 nl s1 wl => ?_⟩
    refine ⟨l, rfl, ⟨_, SqL.of wl⟩, fun D nD => ?_⟩
    refine lc_list (xs := (srt (us.map (·.1))).map V.str) (fun i H' => Same H1 H' ∧ H' D = some (.lst ((((srt (us.map (·.1))).take i).filter (waitsB us w)).map V.str))) ⟨same_upd nD, upd_same⟩ (fun i H' _ h => SqL.of (h.1 _ _ wl)) ?_ ?_
    · rintro i x H2 hi ⟨s2, w2⟩
      obtain ⟨o, ho, rfl⟩ := map_str_get hi
      have hom : o ∈ us.map (·.1) := srt_mem.mp (List.mem_of_getElem? ho)
      obtain ⟨v, hfo, hv⟩ := fu_of hom hN.nd
      have wb : waitsB us w o = (decide (o ∈ u.needs) || (decide (o ∈ u.after) || decide (v.opens = some w))) := by
        unfold waitsB
        rw [hfu, hfo]
      have s12 := s1.trans s2
      have few := hN.len
      have hlen : ((((srt (us.map (·.1))).take i).filter (waitsB us w)).map V.str).length < sizeLine := by
        rw [List.length_map]
        refine Nat.lt_of_le_of_lt (List.length_filter_le _ _) (Nat.lt_of_le_of_lt (List.length_take_le' ..) (small1000 ?_))
        rw [srt_len]
        omega
      have yes : waitsB us w o = true → Same H1 (upd H2 D (.lst (((((srt (us.map (·.1))).take i).filter (waitsB us w)).map V.str) ++ [.str o]))) ∧ (upd H2 D (.lst (((((srt (us.map (·.1))).take i).filter (waitsB us w)).map V.str) ++ [.str o]))) D = some (.lst ((((srt (us.map (·.1))).take (i + 1)).filter (waitsB us w)).map V.str)) := fun c => by
        refine ⟨Same.own (q := D) s2 (mut_keep rfl) nD, ?_⟩
        rw [upd_same, take_filter_snoc _ ho, if_pos c, List.map_append]
        rfl
      have no : waitsB us w o = false → Same H1 H2 ∧ H2 D = some (.lst ((((srt (us.map (·.1))).take (i + 1)).filter (waitsB us w)).map V.str)) := fun c => by
        refine ⟨s2, ?_⟩
        rw [take_filter_snoc _ ho, if_neg (by rw [c]; exact Bool.false_ne_true), List.append_nil]
        exact w2
      refine ⟨rfl, _, rfl, _, rfl, a, _, dxu, _, _, rfl, s12 _ _ ha, T.cl_Unit, T.na_Unit_needs, rfl, n1, _, rfl, .inr (tup_same s12 hn1), rfl, strs_flat _, _, rfl, ?_⟩
      rw [inV_str]
      by_cases c1 : o ∈ u.needs
      · rw [decide_eq_true c1] at wb ⊢
        exact iteT (iteT ⟨_, rfl, _, w2, hlen, yes (by rw [wb]; rfl)⟩)
      rw [decide_eq_false c1] at wb ⊢
      refine iteF ⟨_, rfl, _, rfl, a, _, dxu, _, _, rfl, s12 _ _ ha, T.cl_Unit, T.na_Unit_after, rfl, n4, _, rfl, .inr (tup_same s12 hn4), rfl, strs_flat _, _, rfl, ?_⟩
      rw [inV_str]
      by_cases c2 : o ∈ u.after
      · rw [decide_eq_true c2] at wb ⊢
        exact iteT (iteT ⟨_, rfl, _, w2, hlen, yes (by rw [wb]; rfl)⟩)
      rw [decide_eq_false c2] at wb ⊢
      obtain ⟨ov, hov, b, rfl, hB⟩ := ht.get hN.nd (o, v) hv
      obtain ⟨dxv, m1, m2, m3, m4, r2, hb, _⟩ := id hB
      refine iteF ⟨_, rfl, p, _, dx, _, _, rfl, s12 _ _ hp, T.cl_Shelf, T.na_Shelf_by_name, rfl, _, rfl, d, .ref b, rfl, by rw [← hov]; exact DGet.k (k := Sum.inr o) (s12 _ _ hd), b, _, dxv, _, _, rfl, s12 _ _ hb, T.cl_Unit, T.na_Unit_opens, rfl, _, rfl, scal_optV v.opens (some w), _, rfl, ?_⟩
      rw [show decide (optV v.opens = V.str w) = decide (v.opens = some w) from dec_optV (y := some w)]
      by_cases c3 : v.opens = some w
      · rw [decide_eq_true c3] at wb ⊢
        exact iteT ⟨_, rfl, _, w2, hlen, yes (by rw [wb]; rfl)⟩
      · rw [decide_eq_false c3] at wb ⊢
        exact iteF (no (by rw [wb]; rfl))
    · rintro H2 ⟨s2, w2⟩
      rw [List.length_map, List.take_length] at w2
      exact q D H2 (s1.free nD) (s1.trans s2) w2

-- SPLIT
/-! ### the facts as a table, the units of it -/
abbrev FTab (K : PySem.W.Frag) (H : Hp) : List (Key × V) → List (Str × UF) → Prop := Tab fun v _ u => FactS K H v u
theorem FactS.same {H H' : Hp} {v : V} {u : UF} (h : FactS K H v u) (s : Same H H') : FactS K H' v u := by
  obtain ⟨t, n, x, b, a, g, e, h0, h1, h2, h3, h4, h5⟩ := h
  exact ⟨t, n, x, b, a, g, e, tup_same s h0, tup_same s h1, tup_same s h2, tup_same s h3, tup_same s h4, h5.same s⟩
theorem FactS.keep {H H' : Hp} {q : Addr} {v : V} {u : UF} (h : FactS K H v u) (k : Kp q H H') (n : NotTp H q) : FactS K H' v u := by
  obtain ⟨t, n1, x, b, a, g, e, h0, h1, h2, h3, h4, h5⟩ := h
  exact ⟨t, n1, x, b, a, g, e, k.tup n h0, k.tup n h1, k.tup n h2, k.tup n h3, k.tup n h4, h5.keep k fun xs => (n xs).1⟩
theorem FactsAt.tab {H : Hp} {kvs : List (Key × V)} {us : List (Str × UF)} (h : FactsAt H kvs us) : FTab K H kvs us := by
  induction h with
  | nil => exact .nil
  | snoc _ e ih => exact ih.app (.cons (FactAt.s e) .nil)
theorem FTab.same {H H' : Hp} {kvs : List (Key × V)} {us : List (Str × UF)} (h : FTab K H kvs us) (s : Same H H') : FTab K H' kvs us := h.imp fun _ _ _ r => FactS.same r s
theorem FTab.keep {H H' : Hp} {q : Addr} {kvs : List (Key × V)} {us : List (Str × UF)} (h : FTab K H kvs us) (k : Kp q H H') (n : NotTp H q) : FTab K H' kvs us := h.imp fun _ _ _ r => FactS.keep r k n
theorem NotTp.frz {H : Hp} {q : Addr} {o : Obj} {kvs : List (Key × V)} (h : H q = some (.frz o (.dK kvs))) : NotTp H q := fun ys => ⟨(fun e => by rw [h] at e; cases e), (fun o' e => by rw [h] at e; cases e)⟩
def sp_law_units (K : PySem.W.Frag) : Sp := fun vs H Q _ => ∃ (d : Addr) (kvs : List (Key × V)) (us : List (Str × UF)), vs = [.ref d] ∧ H d = some (.dK kvs) ∧ FTab K H kvs us ∧ Nms us ∧
  ∀ l xs H', H l = none → Same H H' → H' l = some (.lst xs) → ULs K H' xs us → Q (.ref l) H'
theorem ok_law_units (T : Txt K mg) : FnOk P w K mg base CX0 5 (He.fAd K ("_law_units", none)) T.d_law_units ["_law_facts_here"] (sp_law_units K) := by
  refine T.F_law_units.ok sc_law_units (fun vs H Q E h => ?_) (fun cdv A outer s H vs Q E hr h => ?_)
  · obtain ⟨d, kvs, us, rfl, _⟩ := h
    rfl
  · obtain ⟨d, kvs, us, rfl, hd, ht, hN, q⟩ := h
    refine ⟨_, PSs.nox (pss_one (ps_ret (pe_lock (pe_lc (own := [("_law_word", 1)]) (by rfl) sc_law_units.nd (pi_keys (pv 0)) (blkOk_by (own := [("_law_word", 1)]) (N := N_law_units) (sc := defScope s_law_units) (by decide +kernel)) (fun _ _ _ _ _ => (pg_name (i := 1) sc_law_units.nd rfl (Or.inl rfl))) (fun _ _ _ _ _ => pts_nil) (fun _ _ _ _ _ => (pe_call (ok_law_unit T) (hr.mono (by decide)) (by rfl) T.m_law_unit T.F_law_unit.kp T.b_law_unit .nil pass0 (pa_cons (pv 1) (pa_cons (pv 0) pa_nil)))))))), ?_⟩
    refine ⟨d, _, hd, trivial, fun od => ?_⟩
    generalize hE1 : upd H d _ = H1
    have wd := new_at hE1
    have m1 := mut_keep hE1
    have ht1 := FTab.keep ht m1 (.dK hd)
    refine ⟨_, rfl, d, od, rfl, .inl ⟨kvs, wd, fun D nD => ?_⟩⟩
    have few := hN.few
    have ndD : d ≠ D := ne_some wd nD
    refine lc_it walk_keys (fun i H' => Same H1 H' ∧ ∃ xs, H' D = some (.lst xs) ∧ ULs K H' xs (us.take i)) ⟨same_upd nD, [], upd_same, .nil⟩ (fun i H' _ h => h.1 _ _ wd) ?_ ?_
    · rintro i x H2 H2' hi ⟨s2, xs, w2, hU⟩ ⟨rfl, k, v, hk, rfl⟩
      obtain ⟨w, u, rfl, hu, r⟩ := ht1.at hk
      refine ⟨rfl, yes_of (iteT ?_)⟩
      obtain ⟨v', hv', r'⟩ := ht1.get hN.nd (w, u) (List.mem_of_getElem? hu)
      have hg : DGet H2' d (.str w) (some v') := by
        rw [← hv']
        exact .inl ⟨kvs, Sum.inr w, .inr ⟨od, s2 _ _ wd⟩, rfl, rfl⟩
      refine ⟨_, rfl, _, rfl, w, d, v', u, rfl, hg, FactS.same r' s2, fun p H3 np s3 hA => ?_⟩
      have w3 := s3 _ _ w2
      refine ⟨xs, w3, by rw [hU.len, List.length_take]; exact small1000 (by omega), ?_⟩
      generalize hE4 : upd H3 D _ = H4
      have m4 := mut_keep hE4
      refine ⟨Same.own (s2.trans s3) m4 nD, _, new_at hE4, ?_⟩
      rw [take_snoc hu]
      exact ((hU.same s3).keepN m4 (.lst w3) (.lst w3)).app (.cons (hA.keepN m4 (.lst w3) (.lst w3)) .nil)
    · rintro H2 ⟨s2, xs, w2, hU⟩
      rw [ht.len, List.take_length] at hU
      have wd2 := s2 _ _ wd
      refine ⟨wd2, ?_⟩
      generalize hE3 : upd H2 d _ = H3
      have m3 := mut_keep hE3
      have nlH : H D = none := by
        have : H1 D = none := nD
        rw [← hE1, upd_ne ndD.symm] at this
        exact this
      refine q D xs H3 nlH (fun c o e => ?_) (m3 _ _ w2 ndD.symm) (hU.keepN m3 (NotTp.frz wd2) fun C dx f fs z => by rw [wd2] at z; cases z)
      by_cases c0 : c = d
      · subst c0
        rw [hd] at e
        cases e
        exact new_at hE3
      · exact m3 _ _ (s2 _ _ (m1 _ _ e c0)) c0

/-! ### the facts of a law -/
theorem inV_bl (bs : List Bool) : inV (.bl true) (bs.map V.bl) = bs.any id := by
  unfold inV
  rw [List.any_map]
  congr 1
  funext b
  cases b <;> rfl
theorem bls_flat (bs : List Bool) : (bs.map V.bl).all flatV = true := by
  rw [List.all_eq_true]
  intro v hv
  obtain ⟨x, _, rfl⟩ := List.mem_map.mp hv
  rfl
/-- the facts of a law stand so -/
structure LF (K : PySem.W.Frag) (H : Hp) (d : Addr) (us : List (Str × UF)) : Prop where
  ex : ∃ kvs, H d = some (.dK kvs) ∧ FTab K H kvs us
  nms : Nms us
  few : ∀ p ∈ us, p.2.needs.length ≤ 100 ∧ p.2.after.length ≤ 100
theorem LF.same {H H' : Hp} {d : Addr} {us : List (Str × UF)} (h : LF K H d us) (s : Same H H') : LF K H' d us := by
  obtain ⟨kvs, h1, h2⟩ := h.ex
  exact ⟨⟨kvs, s _ _ h1, FTab.same h2 s⟩, h.nms, h.few⟩
theorem LF.keepL {H H' : Hp} {d q : Addr} {us : List (Str × UF)} {xs : List V} (h : LF K H d us) (k : Kp q H H') (hq : H q = some (.lst xs)) : LF K H' d us := by
  obtain ⟨kvs, h1, h2⟩ := h.ex
  exact ⟨⟨kvs, k _ _ h1 (fun e => by rw [e, hq] at h1; cases h1), FTab.keep h2 k (.lst hq)⟩, h.nms, h.few⟩
theorem LF.keepB {H H' : Hp} {d q : Addr} {us : List (Str × UF)} {n : Nat} (h : LF K H d us) (k : Kp q H H') (B : Bag n H q) : LF K H' d us := by
  obtain ⟨_, _, _, hq, _⟩ := B.ex
  exact h.keepL k hq

-- SPLIT
/-! ### knots -/
def WR (H : Hp) (v : V) (_ : Str) (ys : List Str) : Prop := ∃ l, v = .ref l ∧ H l = some (.lst (ys.map V.str))
theorem WR.same {H H' : Hp} {v : V} {w : Str} {ys : List Str} (h : WR H v w ys) (s : Same H H') : WR H' v w ys := by
  obtain ⟨l, e, hl⟩ := h
  exact ⟨l, e, s _ _ hl⟩
theorem WR.keepD {H H' : Hp} {v : V} {w : Str} {ys : List Str} {q : Addr} {kvs : List (Key × V)} (h : WR H v w ys) (k : Kp q H H') (hq : H q = some (.dK kvs)) : WR H' v w ys := by
  obtain ⟨l, e, hl⟩ := h
  exact ⟨l, e, k _ _ hl fun z => by rw [z, hq] at hl; cases hl⟩
/-- the same, of lists that are not at q -/
def WRn (H : Hp) (q : Addr) (v : V) (_ : Str) (ys : List Str) : Prop := ∃ l, v = .ref l ∧ l ≠ q ∧ H l = some (.lst (ys.map V.str))
theorem WRn.wr {H : Hp} {q : Addr} {v : V} {w : Str} {ys : List Str} (h : WRn H q v w ys) : WR H v w ys := by
  obtain ⟨l, e, _, hl⟩ := h
  exact ⟨l, e, hl⟩
theorem WRn.same {H H' : Hp} {q : Addr} {v : V} {w : Str} {ys : List Str} (h : WRn H q v w ys) (s : Same H H') : WRn H' q v w ys := by
  obtain ⟨l, e, n, hl⟩ := h
  exact ⟨l, e, n, s _ _ hl⟩
theorem WRn.keep {H H' : Hp} {q : Addr} {v : V} {w : Str} {ys : List Str} (h : WRn H q v w ys) (k : Kp q H H') : WRn H' q v w ys := by
  obtain ⟨l, e, n, hl⟩ := h
  exact ⟨l, e, n, k _ _ hl n⟩
theorem cutV_from (xs : List Str) (n : Nat) : cutV (xs.map V.str) (some (n : Int)) none = (xs.drop n).map V.str := by
  unfold cutV
  rw [show HT.sIx (xs.map V.str).length 0 (some (n : Int)) = min n (xs.map V.str).length from HT.sIx_nat (xs.map V.str).length 0 n, HT.sIx_none, List.length_map, List.map_drop]
  rw [List.take_of_length_le (by rw [List.length_drop, List.length_map]; exact Nat.le_refl _)]
  by_cases h : n ≤ xs.length
  · rw [Nat.min_eq_left h]
  · rw [Nat.min_eq_right (by omega), List.drop_eq_nil_of_le (by rw [List.length_map]; exact Nat.le_refl _), List.drop_eq_nil_of_le (by rw [List.length_map]; omega)]
def NxO (f : Str → List Str) (ns order : List Str) (v : V) : Prop := (v = .non ∧ ∀ n ∈ ns, n ∉ order → ∃ o ∈ f n, o ∉ order) ∨ ∃ n, v = .str n ∧ n ∈ ns ∧ n ∉ order ∧ ∀ o ∈ f n, o ∈ order
def sp_next_in (K : PySem.W.Frag) : Sp := fun vs H Q _ => ∃ (d l : Addr) (kvs : List (Key × V)) (ns order : List Str) (f : Str → List Str), vs = [.ref d, .ref l] ∧ H d = some (.dK kvs) ∧ Tab (WR H) kvs (ns.map fun n => (n, f n)) ∧ ns.Nodup ∧ ns.length ≤ 16 ∧ (∀ n, (f n).length ≤ 16) ∧ H l = some (.lst (order.map V.str)) ∧
  ∀ v H', Same H H' → NxO f ns order v → Q v H'
theorem ok_next_in (T : Txt K mg) : FnOk P w K mg base CX0 1 (He.fAd K ("next_in", none)) T.d_next_in ["waiting", "order"] (sp_next_in K) := by
  refine T.F_next_in.ok sc_next_in (fun vs H Q E h => ?_) (fun cdv A outer s H vs Q E hr h => ?_)
  · obtain ⟨d, l, kvs, ns, order, f, rfl, _⟩ := h
    rfl
  · obtain ⟨d, l, kvs, ns, order, f, rfl, hd, ht, hn, hl, hf, ho, q⟩ := h
    refine ⟨_, PSs.nox (pss_cons (ps_for PassesOwn.never rfl (pi_list (pe_callB (id := "sorted")  (call_sortedD rfl) (by rfl) T.n_sorted (by decide +kernel) (pa_cons (pv 0) pa_nil))) (pg_name (i := 2) sc_next_in.nd rfl (Or.inl rfl))
      (pss_one (ps_if (PW.pt (pw_and (pt_cmpR op_notIn_seq (pv 2) (pv 1) (by rfl)) (pw_and1 (pt_val (pe_callB (id := "all")  (cr_all rfl) (by rfl) T.n_all (by decide +kernel) (pa_cons (pe_lc (own := [("other", 3)]) (by rfl) sc_next_in.nd (pi_list (pe_dget (hu_of hr) (pv 0) (pv 2) (fun _ _ => rfl))) (blkOk_by (own := [("other", 3)]) (N := N_next_in) (sc := defScope s_next_in) (by decide +kernel)) (fun _ _ _ _ _ => (pg_name (i := 3) sc_next_in.nd rfl (Or.inl rfl))) (fun _ _ _ _ _ => pts_nil) (fun _ _ _ _ _ => (pe_cmpR (r := rIn K false) op_in_seq (pv 3) (pv 1) (by rfl)))) pa_nil))))))
      (pss_one (ps_ret (pv 2)))
      pss_nil)))
      (pss_one (ps_ret pe_non))), ?_⟩
    have names : (ns.map fun n => (n, f n)).map (·.1) = ns := by
      rw [List.map_map]
      exact List.map_id _
    have hk := ht.keys
    rw [names] at hk
    refine ⟨_, rfl, d, kvs, ns, rfl, .inl hd, hk, by omega, fun ys p hy hs np => ?_⟩
    obtain rfl := srt_of hy hs
    generalize hE : upd H p _ = H1
    have w1 := new_at hE
    have s1 := new_same hE np
    refine ⟨p, rfl, ⟨_, SqL.of w1⟩, for_list (xs := (srt ns).map V.str) (fun i σ H' => Same H1 H' ∧ (∀ n ∈ (srt ns).take i, n ∉ order → ∃ o ∈ f n, o ∉ order) ∧ ∃ y1 y2 : Option V, σ = [some (.ref d), some (.ref l), y1, y2])
      ⟨Same.refl _, (fun n hx => nomatch hx), none, none, rfl⟩ (fun i σ H' _ h => SqL.of (h.1 _ _ w1)) ?_ ?_⟩
    · rintro i x σ H2 hi ⟨s2, no, y1, y2, rfl⟩
      obtain ⟨n, hnm, rfl⟩ := map_str_get hi
      have hns : n ∈ ns := srt_mem.mp (List.mem_of_getElem? hnm)
      have s12 := s1.trans s2
      -- name not in order
      refine ⟨_, rfl, _, rfl, l, _, rfl, .inl (SqL.of (s12 _ _ ho)), rfl, strs_flat _, _, rfl, ?_⟩
      show if (if true = true then !inV (.str n) (order.map V.str) else _) = true then _ else _
      rw [if_pos rfl, inV_str]
      by_cases c : n ∈ order
      · rw [decide_eq_true c]
        refine iteF (iteF ⟨s2, fun m hm hmo => ?_, _, _, rfl⟩)
        rw [take_snoc hnm] at hm
        rcases List.mem_append.mp hm with hm | hm
        · exact no m hm hmo
        · rw [List.mem_singleton.mp hm] at hmo
          exact absurd c hmo
      rw [decide_eq_false c]
      refine iteT ?_
      -- all([..])
      obtain ⟨v, hv, wl, rfl, hwl⟩ := ht.get (by rw [names]; exact hn) (n, f n) (List.mem_map.mpr ⟨n, hns, rfl⟩)
      refine ⟨_, rfl, _, rfl, d, .ref wl, rfl, by rw [← hv]; exact DGet.k (k := Sum.inr n) (s12 _ _ hd), wl, rfl, ⟨_, SqL.of (s12 _ _ hwl)⟩, fun D nD => ?_⟩
      refine lc_list (xs := (f n).map V.str) (fun j H' => Same H2 H' ∧ H' D = some (.lst (((f n).take j).map fun o => V.bl (decide (o ∈ order))))) ⟨same_upd nD, upd_same⟩ (fun j H' _ h => SqL.of ((s12.trans h.1) _ _ hwl)) ?_ ?_
      · rintro j x H3 hj ⟨s3, w3⟩
        obtain ⟨o, hoo, rfl⟩ := map_str_get hj
        refine ⟨rfl, yes_of (iteT ?_)⟩
        refine ⟨_, rfl, _, rfl, l, _, rfl, .inl (SqL.of ((s12.trans s3) _ _ ho)), rfl, strs_flat _, _, w3, ?_, Same.own (q := D) s3 (mut_keep rfl) nD, ?_⟩
        · rw [List.length_map]
          have := hf n
          exact Nat.lt_of_le_of_lt (List.length_take_le' ..) (small1000 (by omega))
        · rw [upd_same, take_snoc hoo, List.map_append]
          show some (HO.lst (_ ++ [V.bl (inV (.str o) (order.map V.str))])) = _
          rw [inV_str]
          rfl
      rintro H3 ⟨s3, w3⟩
      rw [List.length_map, List.take_length] at w3
      refine ⟨D, (f n).map fun o => decide (o ∈ order), rfl, SqL.of (by rw [List.map_map]; exact w3), _, rfl, ?_⟩
      have s13 := s12.trans s3
      by_cases c2 : ∀ o ∈ f n, o ∈ order
      · rw [show ((f n).map fun o => decide (o ∈ order)).all id = true from List.all_eq_true.mpr fun b hb => by obtain ⟨o, ho', rfl⟩ := List.mem_map.mp hb; exact decide_eq_true (c2 o ho')]
        exact iteT ⟨_, rfl, q _ H3 s13 (.inr ⟨n, rfl, hns, c, c2⟩)⟩
      · have c3 : ∃ o ∈ f n, o ∉ order := by
          rcases Classical.em (∃ o ∈ f n, o ∉ order) with z | z
          · exact z
          · exact absurd (fun o ho' => Classical.byContradiction fun w => z ⟨o, ho', w⟩) c2
        rw [show ((f n).map fun o => decide (o ∈ order)).all id = false from by
          obtain ⟨o, ho', hno⟩ := c3
          rw [Bool.eq_false_iff]
          intro z
          exact hno (of_decide_eq_true (List.all_eq_true.mp z _ (List.mem_map.mpr ⟨o, ho', rfl⟩)))]
        refine iteF ⟨s2.trans s3, fun m hm hmo => ?_, _, _, rfl⟩
        rw [take_snoc hnm] at hm
        rcases List.mem_append.mp hm with hm | hm
        · exact no m hm hmo
        · rw [List.mem_singleton.mp hm]
          exact c3
    · rintro σ H2 ⟨s2, no, y1, y2, rfl⟩
      refine q _ H2 (s1.trans s2) (.inl ⟨rfl, fun n hns hno => no n ?_ hno⟩)
      rw [List.length_map, List.take_length]
      exact srt_mem.mpr hns
def wn (us : List (Str × UF)) (ns : List Str) (n : Str) : List Str := (wt us n).filter fun o => decide (o ∈ ns)
theorem wn_len {us : List (Str × UF)} (h : Nms us) (ns : List Str) (n : Str) : (wn us ns n).length ≤ 16 := by
  refine Nat.le_trans (List.length_filter_le _ _) (Nat.le_trans (List.length_filter_le _ _) ?_)
  rw [srt_len]
  exact h.len
def sp_free_order (K : PySem.W.Frag) : Sp := fun vs H Q _ => ∃ (p l : Addr) (us : List (Str × UF)) (ns : List Str), vs = [.ref p, .ref l] ∧ ShelfAt K H p us ∧ Nms us ∧ H l = some (.lst (ns.map V.str)) ∧ ns.Nodup ∧ (∀ n ∈ ns, n ∈ us.map (·.1)) ∧
  ∀ order D H', Same H H' → H D = none → H' D = some (.lst (order.map V.str)) → FreeO (wt us) ns order → (∀ n ∈ ns, n ∉ order → ∃ o ∈ wt us n, o ∈ ns ∧ o ∉ order) → Q (.ref D) H'
theorem ok_free_order (T : Txt K mg) : FnOk P w K mg base CX0 4 (He.fAd K ("free_order", none)) T.d_free_order ["shelf", "names"] (sp_free_order K) := by
  refine T.F_free_order.ok sc_free_order (fun vs H Q E h => ?_) (fun cdv A outer s H vs Q E hr h => ?_)
  · obtain ⟨p, l, us, ns, rfl, _⟩ := h
    rfl
  · obtain ⟨p, l, us, ns, rfl, hS, hN, hl, hn, hsub, q⟩ := h
    refine ⟨_, PSs.nox (pss_cons (UP.ps_setDc (i := 2) (own := [("name", 5)]) (by rfl) sc_free_order.nd rfl rfl (UP.sw_dict rfl rfl rfl (by decide +kernel)) (pi_list (pv 1)) (blkOk_by (own := [("name", 5)]) (N := N_free_order) (sc := defScope s_free_order) (by decide +kernel)) (fun _ _ _ _ _ => (pg_name (i := 5) sc_free_order.nd rfl (Or.inl rfl))) (fun _ _ _ _ _ => pts_nil) (fun _ _ _ _ _ => (pv 5)) (fun _ _ _ _ _ => by exact (pe_lc (own := [("other", 6)]) (by rfl) sc_free_order.nd (UP.pi_listK (K := K) (by rfl) (pe_meth (pv 0) T.cl_Shelf T.me_Shelf_waited (ok_Shelf_waited T) (hr.mono (by decide)) T.b_Shelf_waited .nil pass0 (pa_cons (pv 5) pa_nil))) (blkOk_by (own := [("other", 6)]) (N := N_free_order) (sc := _) (by rfl)) (fun _ _ _ _ _ => (pg_name (i := 6) sc_free_order.nd rfl (Or.inl rfl))) (fun _ _ _ _ _ => (pts_one (pt_cmpR (r := rIn K false) op_in_seq (pv 6) (pv 1) (by rfl)))) (fun _ _ _ _ _ => (pv 6)))))
      (pss_cons (ps_set (i := 3) sc_free_order.nd rfl (Or.inl rfl) (pe_lst pa_nil))
      (pss_cons (ps_set (i := 4) sc_free_order.nd rfl (Or.inl rfl) (pe_call (ok_next_in T) (hr.mono (by decide)) (by rfl) T.m_next_in T.F_next_in.kp T.b_next_in .nil pass0 (pa_cons (pv 2) (pa_cons (pv 3) pa_nil))))
      (pss_cons (ps_while PassesOwn.never (pt_cmpR op_notN (pv 4) pe_non (nomark _))
      (pss_cons (ps_expr (pe_bm PySem.F.plainAttrs_list PySem.F.slot_list_append PySem.F.type_list_append mt_append (pv 3) (pa_cons (pv 4) pa_nil)))
      (pss_one (ps_set (i := 4) sc_free_order.nd rfl (Or.inl rfl) (pe_call (ok_next_in T) (hr.mono (by decide)) (by rfl) T.m_next_in T.F_next_in.kp T.b_next_in .nil pass0 (pa_cons (pv 2) (pa_cons (pv 3) pa_nil)))))))
      (pss_one (ps_ret (pv 3))))))), ?_⟩
    -- waiting = {..}
    refine ⟨_, rfl, l, rfl, ⟨_, SqL.of hl⟩, fun D nD => ?_⟩
    have few : ns.length ≤ 16 := Nat.le_trans (nodup_le ns _ hn hsub) hN.len
    refine dc_it (walk_list (xs := ns.map V.str)) (fun i H' => Same H H' ∧ ∃ kvs, H' D = some (.dK kvs) ∧ Tab (WR H') kvs ((ns.take i).map fun n => (n, wn us ns n))) ⟨same_upd nD, [], upd_same, .nil⟩ (fun i H' _ h => SqL.of (h.1 _ _ hl)) ?_ ?_
    · rintro i x H1 H1' hi ⟨s1, kvs, w1, ht⟩ ⟨rfl, hx⟩
      obtain ⟨n, hnm, rfl⟩ := map_str_get hx
      have hns : n ∈ ns := List.mem_of_getElem? hnm
      refine ⟨rfl, yes_of (iteT ?_)⟩
      obtain ⟨dx, d, kv0, hp, _⟩ := id (hS.same s1)
      refine ⟨_, rfl, _, rfl, p, dx, _, rfl, hp, rfl, _, rfl, p, n, us, rfl, hS.same s1, hN, hsub n hns, fun wl H2 nwl s2 wwl => ?_⟩
      refine ⟨wl, rfl, ⟨_, SqL.of wwl⟩, fun D2 nD2 => ?_⟩
      refine lc_list (xs := (wt us n).map V.str) (fun j H' => Same H2 H' ∧ H' D2 = some (.lst ((((wt us n).take j).filter fun o => decide (o ∈ ns)).map V.str))) ⟨same_upd nD2, upd_same⟩ (fun j H' _ h => SqL.of (h.1 _ _ wwl)) ?_ ?_
      · rintro j x H3 hj ⟨s3, w3⟩
        obtain ⟨o, hoo, rfl⟩ := map_str_get hj
        refine ⟨rfl, _, rfl, _, rfl, l, _, rfl, .inl (SqL.of (((s1.trans s2).trans s3) _ _ hl)), rfl, strs_flat _, _, rfl, ?_⟩
        rw [take_filter_snoc _ hoo, inV_str]
        by_cases c : o ∈ ns
        · rw [decide_eq_true c]
          refine iteT ⟨_, rfl, _, w3, ?_, Same.own (q := D2) s3 (mut_keep rfl) nD2, ?_⟩
          · rw [List.length_map]
            refine Nat.lt_of_le_of_lt (List.length_filter_le _ _) (Nat.lt_of_le_of_lt (List.length_take_le' ..) (Nat.lt_of_le_of_lt (List.length_filter_le _ _) (small1000 ?_)))
            rw [srt_len]
            have := hN.len
            omega
          · rw [upd_same, if_pos rfl, List.map_append]
            rfl
        · rw [decide_eq_false c]
          refine iteF ⟨s3, ?_⟩
          rw [if_neg Bool.false_ne_true, List.append_nil]
          exact w3
      rintro H3 ⟨s3, w3⟩
      rw [List.length_map, List.take_length] at w3
      have s13 := (s1.trans s2).trans s3
      have wD3 := (s2.trans s3) _ _ w1
      have hfree : n ∉ ((ns.take i).map fun n => (n, wn us ns n)).map (·.1) := by
        rw [List.map_map]
        intro hm
        obtain ⟨m, hm, e⟩ := List.mem_map.mp hm
        have e : m = n := e
        rw [e, List.mem_take_iff_getElem] at hm
        obtain ⟨j, hj, e2⟩ := hm
        have := (List.getElem?_inj (by omega) hn).mp ((List.getElem?_eq_getElem (by omega)).trans ((congrArg some e2).trans hnm.symm))
        omega
      have hkl : kvs.length ≤ 16 := by
        rw [ht.len, List.length_map, List.length_take]
        omega
      refine ⟨kvs, Sum.inr n, rfl, wD3, small1000 (by omega), ?_⟩
      rw [putK_new _ (ht.free hfree)]
      generalize hE4 : upd H3 D _ = H4
      have m4 := mut_keep hE4
      refine ⟨Same.own s13 m4 nD, _, new_at hE4, ?_⟩
      rw [take_snoc hnm, List.map_append]
      exact (ht.imp fun v w ys r => (WR.same r (s2.trans s3)).keepD m4 wD3).app (.cons ⟨D2, rfl, m4 _ _ w3 fun z => by rw [z, wD3] at w3; cases w3⟩ .nil)
    rintro H1 ⟨s1, kvs, w1, ht⟩
    rw [List.length_map, List.take_length] at ht
    -- order = []; least = next_in(waiting, order)
    refine ⟨by show 0 ≤ sizeLine; decide, fun D2 nD2 => ?_⟩
    generalize hE2 : upd H1 D2 _ = H2
    have w2 : H2 D2 = some (.lst (([] : List Str).map V.str)) := new_at hE2
    have s2 := new_same hE2 nD2
    have nD2H : H D2 = none := s1.free nD2
    have ne : D ≠ D2 := ne_some w1 nD2
    have wlen := wn_len hN ns
    have htn : Tab (WRn H1 D2) kvs (ns.map fun n => (n, wn us ns n)) := ht.imp fun v w ys ⟨l, e, hl⟩ => ⟨l, e, ne_some hl nD2, hl⟩
    refine ⟨_, rfl, _, rfl, D, D2, kvs, ns, [], wn us ns, rfl, s2 _ _ w1, ht.imp fun v w ys r => WR.same r s2, hn, few, wlen, w2, fun v H3 s3 hv => ?_⟩
    refine ⟨fun m σ H' => Same H H' ∧ H' D = some (.dK kvs) ∧ Tab (WRn H' D2) kvs (ns.map fun n => (n, wn us ns n)) ∧ ∃ (order : List Str) (v : V), m + order.length = 17 ∧ FreeO (wt us) ns order ∧ H' D2 = some (.lst (order.map V.str)) ∧ NxO (wn us ns) ns order v ∧ σ = [some (.ref p), some (.ref l), some (.ref D), some (.ref D2), some v, none, none],
      ⟨17, s1.trans (s2.trans s3), s3 _ _ (s2 _ _ w1), htn.imp (fun v w ys r => WRn.same r (s2.trans s3)), [], v, rfl, FreeO.nil _, s3 _ _ w2, hv, rfl⟩, ?_⟩
    rintro m σ H4 ⟨s4, w4, ht4, order, v4, hm, hf, wo, hv4, rfl⟩
    rcases hv4 with ⟨rfl, fin⟩ | ⟨n, rfl, hns, hno, hall⟩
    · refine ⟨_, rfl, rfl, _, rfl, neF ⟨_, rfl, q order D2 H4 s4 nD2H wo hf fun n hn' ho => ?_⟩⟩
      obtain ⟨o, h1, h2⟩ := fin n hn' ho
      obtain ⟨h3, h4⟩ := List.mem_filter.mp h1
      exact ⟨o, h3, of_decide_eq_true h4, h2⟩
    · have hf2 : FreeO (wt us) ns (order ++ [n]) := hf.snoc hns hno fun o ho hs => hall o (List.mem_filter.mpr ⟨ho, decide_eq_true hs⟩)
      have hol : order.length + 1 ≤ 16 := by
        have := nodup_le (order ++ [n]) ns hf2.nd hf2.sub
        rw [List.length_append] at this
        have : order.length + 1 ≤ ns.length := this
        omega
      refine ⟨_, rfl, rfl, _, rfl, ?_⟩
      rw [decide_eq_false (show ¬ V.str n = V.non from fun z => nomatch z)]
      refine iteT ⟨fun σ' H' => Same H H' ∧ H' D = some (.dK kvs) ∧ Tab (WRn H' D2) kvs (ns.map fun n => (n, wn us ns n)) ∧ ∃ (order : List Str) (v : V), (m - 1) + order.length = 17 ∧ FreeO (wt us) ns order ∧ H' D2 = some (.lst (order.map V.str)) ∧ NxO (wn us ns) ns order v ∧ σ' = [some (.ref p), some (.ref l), some (.ref D), some (.ref D2), some v, none, none],
        fun σ' H' h => ⟨m - 1, by omega, h⟩, ?_⟩
      refine ⟨_, rfl, .inl ⟨rfl, _, SqL.of wo⟩, _, rfl, D2, _, _, rfl, rfl, wo, by rw [List.length_map]; exact small1000 (by omega), ?_⟩
      generalize hE5 : upd H4 D2 _ = H5
      have w5 : H5 D2 = some (.lst ((order ++ [n]).map V.str)) := by
        rw [List.map_append]
        exact new_at hE5
      have m5 := mut_keep hE5
      have ht5 : Tab (WRn H5 D2) kvs (ns.map fun n => (n, wn us ns n)) := ht4.imp fun v w ys r => WRn.keep r m5
      refine ⟨_, rfl, _, rfl, D, D2, kvs, ns, order ++ [n], wn us ns, rfl, m5 _ _ w4 ne, ht5.imp (fun v w ys r => WRn.wr r), hn, few, wlen, w5, fun v H6 s6 hv => ?_⟩
      refine ⟨(Same.own s4 m5 nD2H).trans s6, s6 _ _ (m5 _ _ w4 ne), ht5.imp fun v w ys r => WRn.same r s6, order ++ [n], v, ?_, hf2, s6 _ _ w5, hv, rfl⟩
      rw [List.length_append]
      show m - 1 + (order.length + 1) = 17
      omega
def sp_ring_in (K : PySem.W.Frag) : Sp := fun vs H Q _ => ∃ (p l : Addr) (us : List (Str × UF)) (ns : List Str), vs = [.ref p, .ref l] ∧ ShelfAt K H p us ∧ Nms us ∧ (∀ w, w ∉ wt us w) ∧ H l = some (.lst (ns.map V.str)) ∧ ns ≠ [] ∧ ns.Nodup ∧ (∀ n ∈ ns, n ∈ us.map (·.1)) ∧ (∀ n ∈ ns, ∃ o ∈ wt us n, o ∈ ns) ∧
  ∀ r D H', Same H H' → H D = none → H' D = some (.lst (r.map V.str)) → IsRing (wt us) ns r → Q (.ref D) H'
theorem ok_ring_in (T : Txt K mg) : FnOk P w K mg base CX0 4 (He.fAd K ("ring_in", none)) T.d_ring_in ["shelf", "stuck"] (sp_ring_in K) := by
  refine T.F_ring_in.ok sc_ring_in (fun vs H Q E h => ?_) (fun cdv A outer s H vs Q E hr h => ?_)
  · obtain ⟨p, l, us, ns, rfl, _⟩ := h
    rfl
  · obtain ⟨p, l, us, ns, rfl, hS, hN, self, hl, hne, hn, hsub, hst, q⟩ := h
    refine ⟨_, PSs.nox (pss_cons (ps_set (i := 2) sc_ring_in.nd rfl (Or.inl rfl) (pe_lst pa_nil))
      (pss_cons (ps_set (i := 3) sc_ring_in.nd rfl (Or.inl rfl) (pe_ix ix_list (pv 1) pe_int (fun _ _ => rfl)))
      (pss_cons (ps_while PassesOwn.never (pt_cmpR op_notIn_seq (pv 3) (pv 2) (by rfl))
      (pss_cons (ps_expr (pe_bm PySem.F.plainAttrs_list PySem.F.slot_list_append PySem.F.type_list_append mt_append (pv 2) (pa_cons (pv 3) pa_nil)))
      (pss_one (ps_set (i := 3) sc_ring_in.nd rfl (Or.inl rfl) (pe_ix ix_list (pe_lc (own := [("other", 4)]) (by rfl) sc_ring_in.nd (pi_list (pe_meth (pv 0) T.cl_Shelf T.me_Shelf_waited (ok_Shelf_waited T) (hr.mono (by decide)) T.b_Shelf_waited .nil pass0 (pa_cons (pv 3) pa_nil))) (blkOk_by (own := [("other", 4)]) (N := N_ring_in) (sc := defScope s_ring_in) (by decide +kernel)) (fun _ _ _ _ _ => (pg_name (i := 4) sc_ring_in.nd rfl (Or.inl rfl))) (fun _ _ _ _ _ => (pts_one (pt_cmpR (r := rIn K false) op_in_seq (pv 4) (pv 1) (by rfl)))) (fun _ _ _ _ _ => (pv 4))) pe_int (fun _ _ => rfl))))))
      (pss_one (ps_ret (pe_slice sl_list (pv 2) (po_some (pe_bm PySem.F.plainAttrs_list PySem.F.slot_list_index PySem.F.type_list_index mt_index (pv 2) (pa_cons (pv 3) pa_nil))) po_none)))))), ?_⟩
    have few : ns.length ≤ 16 := Nat.le_trans (nodup_le ns _ hn hsub) hN.len
    refine ⟨by show 0 ≤ sizeLine; decide, fun D nD => ?_⟩
    generalize hE1 : upd H D _ = H1
    have w1 : H1 D = some (.lst (([] : List Str).map V.str)) := new_at hE1
    have s1 := new_same hE1 nD
    have nlD : l ≠ D := ne_some hl nD
    obtain ⟨n0, rest, rfl⟩ := List.exists_cons_of_ne_nil hne
    refine ⟨_, rfl, l, _, _, _, rfl, rfl, SqL.of (s1 _ _ hl), at0, ?_⟩
    refine ⟨fun m σ H' => Same H H' ∧ ∃ (t : List Str) (n : Str), m + t.length = 17 ∧ Trail (wt us) (n0 :: rest) t n ∧ H' D = some (.lst (t.map V.str)) ∧ σ = [some (.ref p), some (.ref l), some (.ref D), some (.str n), none],
      ⟨17, s1, [], n0, rfl, Trail.start (List.mem_cons_self ..), w1, rfl⟩, ?_⟩
    rintro m σ H2 ⟨s2, t, n, hm, hT, w2, rfl⟩
    refine ⟨_, rfl, _, rfl, D, _, rfl, .inl (SqL.of w2), rfl, strs_flat _, _, rfl, ?_⟩
    show if (if true = true then !inV (.str n) (t.map V.str) else _) = true then _ else _
    rw [if_pos rfl, inV_str]
    by_cases c : n ∈ t
    · rw [decide_eq_true c]
      obtain ⟨j, hj, ej⟩ := List.getElem_of_mem c
      have hjn : t[j]? = some n := by rw [List.getElem?_eq_getElem hj, ej]
      refine iteF ⟨_, rfl, _, rfl, .inl ⟨rfl, _, SqL.of w2⟩, _, rfl, D, _, _, j, .str n, rfl, rfl, SqL.of w2, rfl, strs_flat _, by rw [List.getElem?_map, hjn]; rfl, by show (n == n) = true; exact beq_self_eq_true n, fun i z hi hz => ?_, _, rfl, D, _, rfl, SqL.of w2, fun R nR => ?_⟩
      · obtain ⟨x, hx, rfl⟩ := map_str_get hz
        show (x == n) = false
        refine beq_eq_false_iff_ne.mpr fun e => ?_
        rw [e] at hx
        have := (List.getElem?_inj (by omega) hT.nd).mp (hx.trans hjn.symm)
        omega
      · rw [cutV_from]
        exact q _ R _ (s2.trans (same_upd nR)) (s2.free nR) upd_same (hT.ring hjn (self n))
    · rw [decide_eq_false c]
      have htl : t.length + 1 ≤ 16 := by
        have := nodup_le (t ++ [n]) (n0 :: rest) (by
          rw [List.nodup_append]
          exact ⟨hT.nd, List.nodup_cons.mpr ⟨by simp, List.nodup_nil⟩, fun a ha b hb e => c (by rw [← List.mem_singleton.mp hb, ← e]; exact ha)⟩) fun x hx => by
            rcases List.mem_append.mp hx with hx | hx
            · exact hT.sub x hx
            · rw [List.mem_singleton.mp hx]
              exact hT.nx
        rw [List.length_append] at this
        have : t.length + 1 ≤ (n0 :: rest).length := this
        omega
      refine iteT ⟨fun σ' H' => Same H H' ∧ ∃ (t : List Str) (n : Str), (m - 1) + t.length = 17 ∧ Trail (wt us) (n0 :: rest) t n ∧ H' D = some (.lst (t.map V.str)) ∧ σ' = [some (.ref p), some (.ref l), some (.ref D), some (.str n), none],
        fun σ' H' h => ⟨m - 1, by omega, h⟩, ?_⟩
      refine ⟨_, rfl, .inl ⟨rfl, _, SqL.of w2⟩, _, rfl, D, _, _, rfl, rfl, w2, by rw [List.length_map]; exact small1000 (by omega), ?_⟩
      generalize hE3 : upd H2 D _ = H3
      have w3 : H3 D = some (.lst ((t ++ [n]).map V.str)) := by
        rw [List.map_append]
        exact new_at hE3
      have m3 := mut_keep hE3
      have s3 := Same.own s2 m3 nD
      have hS3 := hS.same s3
      obtain ⟨dx, d, kv0, hp, _⟩ := id hS3
      refine ⟨_, rfl, p, dx, _, rfl, hp, rfl, _, rfl, p, n, us, rfl, hS3, hN, hsub n hT.nx, fun wl H4 nwl s4 wwl => ?_⟩
      refine ⟨wl, rfl, ⟨_, SqL.of wwl⟩, fun D2 nD2 => ?_⟩
      refine lc_list (xs := (wt us n).map V.str) (fun j H' => Same H4 H' ∧ H' D2 = some (.lst ((((wt us n).take j).filter fun o => decide (o ∈ n0 :: rest)).map V.str))) ⟨same_upd nD2, upd_same⟩ (fun j H' _ h => SqL.of (h.1 _ _ wwl)) ?_ ?_
      · rintro j x H5 hj ⟨s5, w5⟩
        obtain ⟨o, hoo, rfl⟩ := map_str_get hj
        refine ⟨rfl, _, rfl, _, rfl, l, _, rfl, .inl (SqL.of (((s3.trans s4).trans s5) _ _ hl)), rfl, strs_flat _, _, rfl, ?_⟩
        rw [take_filter_snoc _ hoo, inV_str]
        by_cases c : o ∈ n0 :: rest
        · rw [decide_eq_true c]
          refine iteT ⟨_, rfl, _, w5, ?_, Same.own (q := D2) s5 (mut_keep rfl) nD2, ?_⟩
          · rw [List.length_map]
            refine Nat.lt_of_le_of_lt (List.length_filter_le _ _) (Nat.lt_of_le_of_lt (List.length_take_le' ..) (Nat.lt_of_le_of_lt (List.length_filter_le _ _) (small1000 ?_)))
            rw [srt_len]
            have := hN.len
            omega
          · rw [upd_same, if_pos rfl, List.map_append]
            rfl
        · rw [decide_eq_false c]
          refine iteF ⟨s5, ?_⟩
          rw [if_neg Bool.false_ne_true, List.append_nil]
          exact w5
      rintro H5 ⟨s5, w5⟩
      rw [List.length_map, List.take_length] at w5
      obtain ⟨o, ho, hos⟩ := hst n hT.nx
      have hmem : ∀ x ∈ (wt us n).filter fun o => decide (o ∈ n0 :: rest), x ∈ wt us n ∧ x ∈ n0 :: rest := fun x hx => ⟨(List.mem_filter.mp hx).1, of_decide_eq_true (List.mem_filter.mp hx).2⟩
      have hne2 : o ∈ (wt us n).filter fun o => decide (o ∈ n0 :: rest) := List.mem_filter.mpr ⟨ho, decide_eq_true hos⟩
      generalize (wt us n).filter (fun o => decide (o ∈ n0 :: rest)) = fs at w5 hmem hne2
      obtain ⟨f0, fr, rfl⟩ := List.exists_cons_of_ne_nil (List.ne_nil_of_mem hne2)
      obtain ⟨h1, h2⟩ := hmem f0 (List.mem_cons_self ..)
      refine ⟨D2, _, _, _, rfl, rfl, SqL.of w5, at0, ?_⟩
      refine ⟨s3.trans (s4.trans s5), t ++ [n], f0, ?_, hT.more c h2 h1, s5 _ _ (s4 _ _ w3), rfl⟩
      rw [List.length_append]
      show m - 1 + (t.length + 1) = 17
      omega
def sp_knot_in (K : PySem.W.Frag) : Sp := fun vs H Q _ => ∃ (p l : Addr) (us : List (Str × UF)) (ns : List Str), vs = [.ref p, .ref l] ∧ ShelfAt K H p us ∧ Nms us ∧ (∀ w, w ∉ wt us w) ∧ H l = some (.lst (ns.map V.str)) ∧ ns.Nodup ∧ (∀ n ∈ ns, n ∈ us.map (·.1)) ∧
  ∀ v H', Same H H' → ((v = .non ∧ ¬ Knotted (wt us) ns) ∨ ∃ r D, v = .ref D ∧ H D = none ∧ H' D = some (.lst (r.map V.str)) ∧ IsRing (wt us) ns r ∧ Knotted (wt us) ns) → Q v H'
theorem ok_knot_in (T : Txt K mg) : FnOk P w K mg base CX0 5 (He.fAd K ("knot_in", none)) T.d_knot_in ["shelf", "names"] (sp_knot_in K) := by
  refine T.F_knot_in.ok sc_knot_in (fun vs H Q E h => ?_) (fun cdv A outer s H vs Q E hr h => ?_)
  · obtain ⟨p, l, us, ns, rfl, _⟩ := h
    rfl
  · obtain ⟨p, l, us, ns, rfl, hS, hN, self, hl, hn, hsub, q⟩ := h
    refine ⟨_, PSs.nox (pss_cons (ps_set (i := 2) sc_knot_in.nd rfl (Or.inr rfl) (pe_call (ok_free_order T) (hr.mono (by decide)) (by rfl) T.m_free_order T.F_free_order.kp T.b_free_order .nil pass0 (pa_cons (pv 0) (pa_cons (pv 1) pa_nil))))
      (pss_cons (ps_setLc (i := 3) (own := [("name", 4)]) (by rfl) sc_knot_in.nd rfl rfl (sw_true rfl rfl rfl (by decide +kernel)) (pi_list (pv 1)) (blkOk_by (own := [("name", 4)]) (N := N_knot_in) (sc := defScope s_knot_in) (by decide +kernel)) (fun _ _ _ _ _ => (pg_name (i := 4) sc_knot_in.nd rfl (Or.inl rfl))) (fun _ _ _ _ _ => (pts_one (pt_cmpR (r := rIn K true) op_notIn_seq (pv 4) (pv 2) (by rfl)))) (fun _ _ _ _ _ => (pv 4)))
      (pss_one (ps_ret (pe_ifExp (pt_cmpR op_gt (pe_callB (id := "len")  call_len_seq (by rfl) T.n_len (by decide +kernel) (pa_cons (pv 3) pa_nil)) pe_int (nomark _)) (pe_call (ok_ring_in T) (hr.mono (by decide)) (by rfl) T.m_ring_in T.F_ring_in.kp T.b_ring_in .nil pass0 (pa_cons (pv 0) (pa_cons (pv 3) pa_nil))) pe_non))))), ?_⟩
    have few : ns.length ≤ 16 := Nat.le_trans (nodup_le ns _ hn hsub) hN.len
    refine ⟨_, rfl, _, rfl, p, l, us, ns, rfl, hS, hN, hl, hn, hsub, fun order D H1 s1 nD w1 hf hfin => ?_⟩
    -- stuck
    refine ⟨_, rfl, l, rfl, ⟨_, SqL.of (s1 _ _ hl)⟩, fun D2 nD2 => ?_⟩
    refine lc_list (xs := ns.map V.str) (fun j H' => Same H1 H' ∧ H' D2 = some (.lst (((ns.take j).filter fun o => decide (o ∉ order)).map V.str))) ⟨same_upd nD2, upd_same⟩ (fun j H' _ h => SqL.of ((s1.trans h.1) _ _ hl)) ?_ ?_
    · rintro j x H2 hj ⟨s2, w2⟩
      obtain ⟨o, hoo, rfl⟩ := map_str_get hj
      refine ⟨rfl, _, rfl, _, rfl, D, _, rfl, .inl (SqL.of (s2 _ _ w1)), rfl, strs_flat _, _, rfl, ?_⟩
      show if (if true = true then !inV (.str o) (order.map V.str) else _) = true then _ else _
      rw [if_pos rfl, inV_str, take_filter_snoc _ hoo]
      by_cases c : o ∈ order
      · rw [decide_eq_true c]
        refine iteF ⟨s2, ?_⟩
        rw [if_neg (by rw [decide_eq_false (fun z => z c)]; exact Bool.false_ne_true), List.append_nil]
        exact w2
      · rw [decide_eq_false c]
        refine iteT ⟨_, rfl, _, w2, ?_, Same.own (q := D2) s2 (mut_keep rfl) nD2, ?_⟩
        · rw [List.length_map]
          exact Nat.lt_of_le_of_lt (List.length_filter_le _ _) (Nat.lt_of_le_of_lt (List.length_take_le' ..) (small1000 (by omega)))
        · rw [upd_same, if_pos (decide_eq_true c), List.map_append]
          rfl
    rintro H2 ⟨s2, w2⟩
    rw [List.length_map, List.take_length] at w2
    have hmem : ∀ x, x ∈ (ns.filter fun o => decide (o ∉ order)) ↔ x ∈ ns ∧ x ∉ order := fun x => by
      rw [List.mem_filter]
      exact ⟨fun ⟨a, b⟩ => ⟨a, of_decide_eq_true b⟩, fun ⟨a, b⟩ => ⟨a, decide_eq_true b⟩⟩
    have hnd2 : (ns.filter fun o => decide (o ∉ order)).Nodup := List.Nodup.sublist List.filter_sublist hn
    generalize ns.filter (fun o => decide (o ∉ order)) = st at w2 hmem hnd2
    have s12 := s1.trans s2
    refine ⟨_, rfl, D2, _, rfl, .inl (SqL.of w2), _, _, rfl, rfl, _, rfl, ?_⟩
    rw [List.length_map]
    by_cases c : st = []
    · subst c
      refine iteNd (by decide) ?_
      refine q _ H2 s12 (.inl ⟨rfl, hf.no fun n hns => ?_⟩)
      rcases Classical.em (n ∈ order) with z | z
      · exact z
      · exact absurd ((hmem n).mpr ⟨hns, z⟩) (by simp)
    · have hpos : 0 < st.length := List.length_pos_iff.mpr c
      have hstep : ∀ n ∈ st, ∃ o ∈ wt us n, o ∈ st := fun n hns => by
        obtain ⟨h1, h2⟩ := (hmem n).mp hns
        obtain ⟨o, ho, h3, h4⟩ := hfin n h1 h2
        exact ⟨o, ho, (hmem o).mpr ⟨h3, h4⟩⟩
      refine iteYd (by omega) ?_
      refine ⟨_, rfl, _, rfl, p, D2, us, st, rfl, hS.same s12, hN, self, w2, c, hnd2, fun n hns => hsub n ((hmem n).mp hns).1, hstep, fun r R H3 s3 nR w3 hR => ?_⟩
      refine q _ H3 (s12.trans s3) (.inr ⟨r, R, rfl, s12.free nR, w3, ⟨hR.two, hR.nd, fun n hnr => ((hmem n).mp (hR.sub n hnr)).1, hR.step⟩, st, c, fun n hns => ((hmem n).mp hns).1, hstep⟩)

-- SPLIT
/-! ### for whom a unit waits, by the facts -/
theorem catA_any {H : Hp} {a b : Addr} {xs ys : List V} {Q : VK} (ha : SqT K H a xs) (hb : SqT K H b ys) (hl : xs.length + ys.length ≤ sizeLine) (q : ∀ t H', Same H H' → (H t = none ∨ H' = H) → SqT K H' t (xs ++ ys) → Q (.ref t) H') : rCatA K (.ref a) (.ref b) H Q := by
  refine ⟨a, b, xs, ys, rfl, rfl, ha, hb, hl, fun e => ?_, fun _ e => ?_, fun _ _ p np => ?_⟩
  · subst e
    exact q b H (Same.refl _) (.inr rfl) hb
  · subst e
    refine q a H (Same.refl _) (.inr rfl) ?_
    rw [List.append_nil]
    exact ha
  · exact q p _ (same_upd np) (.inl np) (SqT.of upd_same)
def sp_law_waited (K : PySem.W.Frag) : Sp := fun vs H Q _ => ∃ (d : Addr) (w : Str) (kvs : List (Key × V)) (us : List (Str × UF)), vs = [.ref d, .str w] ∧ H d = some (.dK kvs) ∧ FTab K H kvs us ∧ Nms us ∧ (∀ p ∈ us, p.2.needs.length ≤ 100 ∧ p.2.after.length ≤ 100) ∧ w ∈ us.map (·.1) ∧
  ∀ l H', H l = none → Same H H' → H' l = some (.lst ((wt us w).map V.str)) → Q (.ref l) H'
theorem ok_law_waited (T : Txt K mg) : FnOk P w K mg base CX0 1 (He.fAd K ("_law_waited", none)) T.d_law_waited ["_law_facts_here", "_law_word"] (sp_law_waited K) := by
  refine T.F_law_waited.ok sc_law_waited (fun vs H Q E h => ?_) (fun cdv A outer s H vs Q E hr h => ?_)
  · obtain ⟨d, w, kvs, us, rfl, _⟩ := h
    rfl
  · obtain ⟨d, w, kvs, us, rfl, hd, ht, hN, hlen, hw, q⟩ := h
    refine ⟨_, PSs.nox (pss_cons (ps_set (i := 2) sc_law_waited.nd rfl (Or.inr rfl) (pe_op op_catA (pe_ix ix_tup (pe_dget (hu_of hr) (pv 0) (pv 1) (fun _ _ => rfl)) pe_int (fun _ _ => rfl)) (pe_ix ix_tup (pe_dget (hu_of hr) (pv 0) (pv 1) (fun _ _ => rfl)) pe_int (fun _ _ => rfl))))
      (pss_one (ps_ret (pe_callB (id := "sorted")  cr_sortedS (by rfl) T.n_sorted (by decide +kernel) (pa_cons (pe_lock (pe_lc (own := [("_law_one", 3)]) (by rfl) sc_law_waited.nd (pi_keys (pv 0)) (blkOk_by (own := [("_law_one", 3)]) (N := N_law_waited) (sc := defScope s_law_waited) (by decide +kernel)) (fun _ _ _ _ _ => (pg_name (i := 3) sc_law_waited.nd rfl (Or.inl rfl))) (fun _ _ _ _ _ => (pts_one (PW.pt (pw_or (pt_cmpR (r := rIn K false) op_in_seq (pv 3) (pv 2) (by rfl)) (pw_or1 (pt_cmpR op_eq (pe_ix (r := rIxT K) ix_tup (pe_dget (hu_of hr) (pv 0) (pv 3) (fun _ _ => rfl)) pe_int (fun _ _ => rfl)) (pv 1) (nomark _))))))) (fun _ _ _ _ _ => (pv 3)))) pa_nil))))), ?_⟩
    obtain ⟨u, hfu, hu⟩ := fu_of hw hN.nd
    obtain ⟨v, hv, t, n1, n2, n3, n4, g, rfl, wt0, wn1, wn2, wn3, wn4, hg⟩ := ht.get hN.nd (w, u) hu
    have hget : DGet H d (.str w) (some (.ref t)) := by
      rw [← hv]
      exact DGet.k (k := Sum.inr w) hd
    obtain ⟨l1, l2⟩ := hlen _ hu
    refine ⟨_, rfl, _, rfl, d, _, rfl, hget, t, _, _, _, rfl, rfl, wt0, at1, _, rfl, _, rfl, d, _, rfl, hget, t, _, _, _, rfl, rfl, wt0, at4, ?_⟩
    refine catA_any wn1 wn4 (by rw [List.length_map, List.length_map]; exact Nat.le_of_lt (small1000 (by omega))) fun tn H1 s1 _ wtn => ?_
    rw [← List.map_append] at wtn
    have hd1 := s1 _ _ hd
    have ht1 := FTab.same ht s1
    refine ⟨d, _, hd1, trivial, fun od => ?_⟩
    generalize hE2 : upd H1 d _ = H2
    have wd := new_at hE2
    have m2 := mut_keep hE2
    have ht2 := FTab.keep ht1 m2 (.dK hd1)
    have wtn2 := m2.tup (.dK hd1) wtn
    refine ⟨_, rfl, d, od, rfl, .inl ⟨kvs, wd, fun D nD => ?_⟩⟩
    have ndD : d ≠ D := ne_some wd nD
    have few := hN.few
    refine lc_it walk_keys (fun i H' => Same H2 H' ∧ H' D = some (.lst ((((us.map (·.1)).take i).filter (waitsB us w)).map V.str))) ⟨same_upd nD, upd_same⟩ (fun i H' _ h => h.1 _ _ wd) ?_ ?_
    · rintro i x H3 H3' hi ⟨s3, w3⟩ ⟨rfl, k, v, hk, rfl⟩
      obtain ⟨o, uo, rfl, huo, r⟩ := ht2.at hk
      have hoo : (us.map (·.1))[i]? = some o := by rw [List.getElem?_map, huo]; rfl
      have huom := List.mem_of_getElem? huo
      have hfo : fu us o = some uo := fu_some hN.nd huom
      have wb : waitsB us w o = (decide (o ∈ u.needs ++ u.after) || decide (uo.opens = some w)) := by
        unfold waitsB
        rw [hfu, hfo]
        show (decide (o ∈ u.needs) || (decide (o ∈ u.after) || decide (uo.opens = some w))) = _
        rw [← Bool.or_assoc]
        congr 1
        by_cases c1 : o ∈ u.needs
        · rw [decide_eq_true c1, decide_eq_true (List.mem_append_left _ c1), Bool.true_or]
        · rw [decide_eq_false c1, Bool.false_or]
          exact decide_eq_decide.mpr ⟨List.mem_append_right _, fun z => (List.mem_append.mp z).resolve_left c1⟩
      have hll : ((((us.map (·.1)).take i).filter (waitsB us w)).map V.str).length < sizeLine := by
        rw [List.length_map]
        refine Nat.lt_of_le_of_lt (List.length_filter_le _ _) (Nat.lt_of_le_of_lt (List.length_take_le' ..) (small1000 ?_))
        rw [List.length_map]
        omega
      have yes : waitsB us w o = true → Same H2 (upd H3' D (.lst (((((us.map (·.1)).take i).filter (waitsB us w)).map V.str) ++ [.str o]))) ∧ (upd H3' D (.lst (((((us.map (·.1)).take i).filter (waitsB us w)).map V.str) ++ [.str o]))) D = some (.lst ((((us.map (·.1)).take (i + 1)).filter (waitsB us w)).map V.str)) := fun c => by
        refine ⟨Same.own (q := D) s3 (mut_keep rfl) nD, ?_⟩
        rw [upd_same, take_filter_snoc _ hoo, if_pos c, List.map_append]
        rfl
      have no : waitsB us w o = false → Same H2 H3' ∧ H3' D = some (.lst ((((us.map (·.1)).take (i + 1)).filter (waitsB us w)).map V.str)) := fun c => by
        refine ⟨s3, ?_⟩
        rw [take_filter_snoc _ hoo, if_neg (by rw [c]; exact Bool.false_ne_true), List.append_nil]
        exact w3
      refine ⟨rfl, _, rfl, _, rfl, tn, _, rfl, .inr (tup_same s3 wtn2), rfl, strs_flat _, _, rfl, ?_⟩
      rw [show inV (kV (Sum.inr o)) ((u.needs ++ u.after).map V.str) = decide (o ∈ u.needs ++ u.after) from inV_str _ _]
      by_cases c1 : o ∈ u.needs ++ u.after
      · rw [decide_eq_true c1] at wb ⊢
        exact iteT (iteT ⟨_, rfl, _, w3, hll, yes (by rw [wb]; rfl)⟩)
      rw [decide_eq_false c1] at wb ⊢
      obtain ⟨v2, hv2, t2, o1, o2, o3, o4, g2, rfl, wo0, _⟩ := ht2.get hN.nd (o, uo) huom
      refine iteF ⟨_, rfl, _, rfl, d, .ref t2, rfl, by rw [← hv2]; exact .inl ⟨kvs, Sum.inr o, .inr ⟨od, s3 _ _ wd⟩, rfl, rfl⟩, t2, _, _, _, rfl, rfl, tup_same s3 wo0, at5, _, rfl, scal_optV uo.opens (some w), _, rfl, ?_⟩
      rw [show decide (optV uo.opens = V.str w) = decide (uo.opens = some w) from dec_optV (y := some w)]
      by_cases c3 : uo.opens = some w
      · rw [decide_eq_true c3] at wb ⊢
        exact iteT ⟨_, rfl, _, w3, hll, yes (by rw [wb]; rfl)⟩
      · rw [decide_eq_false c3] at wb ⊢
        exact iteF (no (by rw [wb]; rfl))
    rintro H3 ⟨s3, w3⟩
    rw [ht.len, show us.length = (us.map (·.1)).length by rw [List.length_map], List.take_length] at w3
    have wd3 := s3 _ _ wd
    refine ⟨wd3, ?_⟩
    generalize hE4 : upd H3 d _ = H4
    have m4 := mut_keep hE4
    have s14 : Same H1 H4 := fun c o e => by
      by_cases c0 : c = d
      · subst c0
        rw [hd1] at e
        cases e
        exact new_at hE4
      · exact m4 _ _ (s3 _ _ (m2 _ _ e c0)) c0
    have w4 := m4 _ _ w3 ndD.symm
    refine ⟨D, _, rfl, SqL.of w4, ?_, fun ys p hy hs np => ?_⟩
    · refine Nat.lt_of_le_of_lt (List.length_filter_le _ _) ?_
      rw [List.length_map]
      omega
    obtain rfl := srt_of hy hs
    rw [srt_filter] at *
    exact q p _ ((s1.trans s14).free np) ((s1.trans s14).trans (same_upd np)) upd_same

-- SPLIT
/-! ### the law's own removal -/
def sp_law_knotted (K : PySem.W.Frag) : Sp := fun vs H Q _ => ∃ (d l : Addr) (us : List (Str × UF)) (ns : List Str), vs = [.ref d, .ref l] ∧ LF K H d us ∧ H l = some (.lst (ns.map V.str)) ∧ ns.length ≤ 16 ∧ (∀ n ∈ ns, n ∈ us.map (·.1)) ∧
  ∀ left D H', Same H H' → H D = none → H' D = some (.lst (left.map V.str)) → (∀ x ∈ left, PyData.strOk x = true) → (left = [] ↔ ¬ Knotted (wt us) ns) → Q (.ref D) H'
theorem ok_law_knotted (T : Txt K mg) : FnOk P w K mg base CX0 2 (He.fAd K ("_law_knotted", none)) T.d_law_knotted ["_law_facts_here", "_law_some_here"] (sp_law_knotted K) := by
  refine T.F_law_knotted.ok sc_law_knotted (fun vs H Q E h => ?_) (fun cdv A outer s H vs Q E hr h => ?_)
  · obtain ⟨d, l, us, ns, rfl, _⟩ := h
    rfl
  · obtain ⟨d, l, us, ns, rfl, hF, hl, few, hsub, q⟩ := h
    refine ⟨_, PSs.nox (pss_cons (ps_set (i := 2) sc_law_knotted.nd rfl (Or.inr rfl) (pe_callTy (T := "list")  call_list_of (by rfl) T.n_list (by decide +kernel) (pa_cons (pv 1) pa_nil)))
      (pss_cons (ps_for PassesOwn.never rfl (pi_range1 (by rfl) T.n_range (pa_cons (pe_callB (id := "len")  call_len_seq (by rfl) T.n_len (by decide +kernel) (pa_cons (pv 2) pa_nil)) pa_nil)) (pg_name (i := 3) sc_law_knotted.nd rfl (Or.inl rfl))
      (pss_one (ps_set (i := 2) sc_law_knotted.nd rfl (Or.inr rfl) (pe_lc (own := [("_law_word", 4)]) (by rfl) sc_law_knotted.nd (pi_list (pv 2)) (blkOk_by (own := [("_law_word", 4)]) (N := N_law_knotted) (sc := defScope s_law_knotted) (by decide +kernel)) (fun _ _ _ _ _ => (pg_name (i := 4) sc_law_knotted.nd rfl (Or.inl rfl))) (fun _ _ _ _ _ => (pts_one (pt_cmpR (r := rIn K false) op_in_seq pe_bl (pe_lc (own := [("_law_one", 5)]) (by rfl) sc_law_knotted.nd (UP.pi_listK (K := K) (by rfl) (pe_call (ok_law_waited T) (hr.mono (by decide)) (by rfl) T.m_law_waited T.F_law_waited.kp T.b_law_waited .nil pass0 (pa_cons (pv 0) (pa_cons (pv 4) pa_nil)))) (blkOk_by (own := [("_law_one", 5)]) (N := N_law_knotted) (sc := _) (by rfl)) (fun _ _ _ _ _ => (pg_name (i := 5) sc_law_knotted.nd rfl (Or.inl rfl))) (fun _ _ _ _ _ => pts_nil) (fun _ _ _ _ _ => (pe_cmpR (r := rIn K false) op_in_seq (pv 5) (pv 2) (by rfl)))) (by rfl)))) (fun _ _ _ _ _ => (pv 4))))))
      (pss_one (ps_ret (pv 2))))), ?_⟩
    refine ⟨_, rfl, l, _, rfl, .inl (SqL.of hl), fun D nD => ?_⟩
    generalize hE1 : upd H D _ = H1
    have w1 := new_at hE1
    have s1 := new_same hE1 nD
    refine ⟨_, rfl, D, _, rfl, .inl (SqL.of w1), ?_⟩
    rw [List.length_map]
    refine ⟨_, rfl, by omega, by omega, for_range (lo := 0) (n := ns.length) (fun i σ H' => Same H H' ∧ ∃ (E : Addr) (y1 y2 y3 : Option V), H E = none ∧ H' E = some (.lst ((rsteps (wt us) i ns).map V.str)) ∧ σ = [some (.ref d), some (.ref l), some (.ref E), y1, y2, y3])
      ⟨s1, D, none, none, none, nD, w1, rfl⟩ ?_ ?_⟩
    · rintro i σ H2 hi ⟨s2, E, y1, y2, y3, nE, w2, rfl⟩
      refine ⟨_, rfl, E, rfl, ⟨_, SqL.of w2⟩, fun D2 nD2 => ?_⟩
      have nED : E ≠ D2 := ne_some w2 nD2
      generalize hcur : rsteps (wt us) i ns = cur at w2
      have hcs : ∀ n ∈ cur, n ∈ ns := fun n hn => rsteps_sub (W := wt us) i n (hcur ▸ hn)
      have hcl : cur.length ≤ 16 := by
        rw [← hcur]
        have : ∀ k, (rsteps (wt us) k ns).length ≤ ns.length := fun k => by
          induction k with
          | zero => exact Nat.le_refl _
          | succ k ih => exact Nat.le_trans (List.length_filter_le _ _) ih
        exact Nat.le_trans (this i) few
      refine lc_list (xs := cur.map V.str) (fun j H' => Same H2 H' ∧ H' D2 = some (.lst (((cur.take j).filter fun n => (wt us n).any fun o => decide (o ∈ cur)).map V.str))) ⟨same_upd nD2, upd_same⟩ (fun j H' _ h => SqL.of (h.1 _ _ w2)) ?_ ?_
      · rintro j x H3 hj ⟨s3, w3⟩
        obtain ⟨n, hnm, rfl⟩ := map_str_get hj
        have hns := hcs n (List.mem_of_getElem? hnm)
        have s23 := s2.trans s3
        refine ⟨rfl, ?_⟩
        have hF3 := hF.same s23
        obtain ⟨kvs, hk1, hk2⟩ := hF3.ex
        refine ⟨_, rfl, _, rfl, d, n, kvs, us, rfl, hk1, hk2, hF.nms, hF.few, hsub n hns, fun wl H4 nwl s4 wwl => ?_⟩
        refine ⟨wl, rfl, ⟨_, SqL.of wwl⟩, fun D3 nD3 => ?_⟩
        refine lc_list (xs := (wt us n).map V.str) (fun j H' => Same H4 H' ∧ H' D3 = some (.lst (((wt us n).take j).map fun o => V.bl (decide (o ∈ cur))))) ⟨same_upd nD3, upd_same⟩ (fun j H' _ h => SqL.of (h.1 _ _ wwl)) ?_ ?_
        · rintro k x H5 hk ⟨s5, w5⟩
          obtain ⟨o, hoo, rfl⟩ := map_str_get hk
          refine ⟨rfl, yes_of (iteT ?_)⟩
          refine ⟨_, rfl, _, rfl, E, _, rfl, .inl (SqL.of ((s3.trans (s4.trans s5)) _ _ w2)), rfl, strs_flat _, _, w5, ?_, Same.own (q := D3) s5 (mut_keep rfl) nD3, ?_⟩
          · rw [List.length_map]
            refine Nat.lt_of_le_of_lt (List.length_take_le' ..) (Nat.lt_of_le_of_lt (List.length_filter_le _ _) (small1000 ?_))
            rw [srt_len]
            have := hF.nms.len
            omega
          · rw [upd_same, take_snoc hoo, List.map_append]
            show some (HO.lst (_ ++ [V.bl (inV (.str o) (cur.map V.str))])) = _
            rw [inV_str]
            rfl
        rintro H5 ⟨s5, w5⟩
        rw [List.length_map, List.take_length] at w5
        have w5' : H5 D3 = some (.lst (((wt us n).map fun o => decide (o ∈ cur)).map V.bl)) := by
          rw [List.map_map]
          exact w5
        refine ⟨D3, _, rfl, .inl (SqL.of w5'), rfl, bls_flat _, _, rfl, ?_⟩
        rw [inV_bl, take_filter_snoc _ hnm]
        have e : ((wt us n).map fun o => decide (o ∈ cur)).any id = (wt us n).any fun o => decide (o ∈ cur) := by
          rw [List.any_map]
          rfl
        have s35 := s4.trans s5
        have w3' := s35 _ _ w3
        rw [e]
        cases hb : (wt us n).any fun o => decide (o ∈ cur)
        · refine iteF ⟨s3.trans s35, ?_⟩
          rw [if_neg Bool.false_ne_true, List.append_nil]
          exact w3'
        · refine iteT ⟨_, rfl, _, w3', ?_, Same.own (q := D2) (s3.trans s35) (mut_keep rfl) nD2, ?_⟩
          · rw [List.length_map]
            exact Nat.lt_of_le_of_lt (List.length_filter_le _ _) (Nat.lt_of_le_of_lt (List.length_take_le' ..) (small1000 (by omega)))
          · rw [upd_same, if_pos rfl, List.map_append]
            rfl
      rintro H3 ⟨s3, w3⟩
      rw [List.length_map, List.take_length] at w3
      refine ⟨s2.trans s3, D2, _, _, _, s2.free nD2, ?_, rfl⟩
      show H3 D2 = some (.lst ((rstep (W := wt us) (rsteps (wt us) i ns)).map V.str))
      rw [hcur]
      exact w3
    · rintro σ H2 ⟨s2, E, y1, y2, y3, nE, w2, rfl⟩
      exact ⟨_, rfl, q _ E H2 s2 nE w2 (fun x hx => (hF.nms.nm x (hsub x (rsteps_sub _ x hx))).ok) rsteps_knot⟩

-- SPLIT
/-! ### what follows at once -/
abbrev onS : Str := Str.ofString "on"
abbrev offS : Str := Str.ofString "off"
theorem ok_off : PyData.strOk offS = true := by decide +kernel
theorem ok_on : PyData.strOk onS = true := by decide +kernel
def needB (us : List (Str × UF)) (w o : Str) : Bool := match fu us o with
  | some v => decide (w ∈ v.needs)
  | none => false
def barB (us : List (Str × UF)) (w o : Str) : Bool := match fu us w, fu us o with
  | some u, some v => decide (o ∈ u.bars) || decide (w ∈ v.bars)
  | _, _ => false
def nd (us : List (Str × UF)) (w : Str) : List Str := (srt (us.map (·.1))).filter (needB us w)
def br (us : List (Str × UF)) (w : Str) : List Str := (srt (us.map (·.1))).filter (barB us w)
def ned (us : List (Str × UF)) (w : Str) : List Str := match fu us w with
  | some u => u.needs.filter fun x => decide (x ∈ us.map (·.1))
  | none => []
def ao (us : List (Str × UF)) (d : Str × Str) : List (Str × Str) :=
  if d.2 = offS then (nd us d.1).map (·, offS) else srtP ((ned us d.1).map (·, onS) ++ (br us d.1).map (·, offS))
theorem filt_len {us : List (Str × UF)} (h : Nms us) (f : Str → Bool) : ((srt (us.map (·.1))).filter f).length ≤ 16 := by
  refine Nat.le_trans (List.length_filter_le _ _) ?_
  rw [srt_len]
  exact h.len

def sp_Shelf_barred (K : PySem.W.Frag) : Sp := fun vs H Q _ => ∃ (p : Addr) (w : Str) (us : List (Str × UF)), vs = [.ref p, .str w] ∧ ShelfAt K H p us ∧ Nms us ∧ w ∈ us.map (·.1) ∧
  ∀ l H', H l = none → Same H H' → H' l = some (.lst ((br us w).map V.str)) → Q (.ref l) H'
theorem ok_Shelf_barred (T : Txt K mg) : FnOk P w K mg base CX0 3 (He.fAd K ("Shelf", some "barred")) T.d_Shelf_barred ["self", "name"] (sp_Shelf_barred K) := by
  refine T.F_Shelf_barred.ok sc_Shelf_barred (fun vs H Q E h => ?_) (fun cdv A outer s H vs Q E hr h => ?_)
  · obtain ⟨p, w, us, rfl, _⟩ := h
    rfl
  · obtain ⟨p, w, us, rfl, hS, hN, hw, q⟩ := h
    refine ⟨_, PSs.nox (pss_cons (ps_set (i := 2) sc_Shelf_barred.nd rfl (Or.inr rfl) (pe_fld (pe_meth (pv 0) T.cl_Shelf T.me_Shelf_unit (ok_Shelf_unit T) (hr.mono (by decide)) T.b_Shelf_unit .nil pass0 (pa_cons (pv 1) pa_nil)) rfl))
      (pss_one (ps_ret (pe_lc (own := [("other", 3)]) (by rfl) sc_Shelf_barred.nd (pi_list (pe_meth0 (pv 0) T.cl_Shelf T.me_Shelf_names (ok_Shelf_names T) (hr.mono (by decide)) T.b_Shelf_names .nil pass0)) (blkOk_by (own := [("other", 3)]) (N := N_Shelf_barred) (sc := defScope s_Shelf_barred) (by decide +kernel)) (fun _ _ _ _ _ => (pg_name (i := 3) sc_Shelf_barred.nd rfl (Or.inl rfl))) (fun _ _ _ _ _ => by exact (pts_one (PW.pt (pw_or (pt_cmpR (r := rIn K false) op_in_seq (pv 3) (pv 2) (by rfl)) (pw_or1 (pt_cmpR (r := rIn K false) op_in_seq (pv 1) (UP.pe_fldK (K := K) (by rfl) (pe_dget (hu_of hr) (UP.pe_fldK (K := K) (by rfl) (pv 0) (by rfl)) (pv 3) (fun _ _ => rfl)) (by rfl)) (by rfl))))))) (fun _ _ _ _ _ => (pv 3)))))), ?_⟩
    obtain ⟨dx, d, kvs, hp, hd, ht⟩ := id hS
    refine ⟨_, rfl, p, dx, _, rfl, hp, rfl, _, rfl, p, w, us, rfl, hS, hN, hw, fun a u hu hA => ?_⟩
    have hfu : fu us w = some u := fu_some hN.nd hu
    obtain ⟨dxu, n1, n2, n3, n4, r, ha, hn1, hn2, hn3, hn4, _⟩ := id hA
    refine ⟨a, _, dxu, _, _, rfl, ha, T.cl_Unit, T.na_Unit_bars, rfl, ?_⟩
    refine ⟨_, rfl, p, dx, _, rfl, hp, rfl, p, us, rfl, hS, hN, fun l H1 nl s1 wl => ?_⟩
    refine ⟨l, rfl, ⟨_, SqL.of wl⟩, fun D nD => ?_⟩
    refine lc_list (xs := (srt (us.map (·.1))).map V.str) (fun i H' => Same H1 H' ∧ H' D = some (.lst ((((srt (us.map (·.1))).take i).filter (barB us w)).map V.str))) ⟨same_upd nD, upd_same⟩ (fun i H' _ h => SqL.of (h.1 _ _ wl)) ?_ ?_
    · rintro i x H2 hi ⟨s2, w2⟩
      obtain ⟨o, ho, rfl⟩ := map_str_get hi
      have hom : o ∈ us.map (·.1) := srt_mem.mp (List.mem_of_getElem? ho)
      obtain ⟨v, hfo, hv⟩ := fu_of hom hN.nd
      have wb : barB us w o = (decide (o ∈ u.bars) || decide (w ∈ v.bars)) := by
        unfold barB
        rw [hfu, hfo]
      have s12 := s1.trans s2
      have hlen : ((((srt (us.map (·.1))).take i).filter (barB us w)).map V.str).length < sizeLine := by
        rw [List.length_map]
        refine Nat.lt_of_le_of_lt (List.length_filter_le _ _) (Nat.lt_of_le_of_lt (List.length_take_le' ..) (small1000 ?_))
        rw [srt_len]
        have := hN.len
        omega
      have yes : barB us w o = true → Same H1 (upd H2 D (.lst (((((srt (us.map (·.1))).take i).filter (barB us w)).map V.str) ++ [.str o]))) ∧ (upd H2 D (.lst (((((srt (us.map (·.1))).take i).filter (barB us w)).map V.str) ++ [.str o]))) D = some (.lst ((((srt (us.map (·.1))).take (i + 1)).filter (barB us w)).map V.str)) := fun c => by
        refine ⟨Same.own (q := D) s2 (mut_keep rfl) nD, ?_⟩
        rw [upd_same, take_filter_snoc _ ho, if_pos c, List.map_append]
        rfl
      refine ⟨rfl, _, rfl, _, rfl, n3, _, rfl, .inr (tup_same s12 hn3), rfl, strs_flat _, _, rfl, ?_⟩
      rw [inV_str]
      by_cases c1 : o ∈ u.bars
      · rw [decide_eq_true c1] at wb ⊢
        exact iteT (iteT ⟨_, rfl, _, w2, hlen, yes (by rw [wb]; rfl)⟩)
      rw [decide_eq_false c1] at wb ⊢
      obtain ⟨ov, hov, b, rfl, hB⟩ := ht.get hN.nd (o, v) hv
      obtain ⟨dxv, m1, m2, m3, m4, r2, hb, hm1, hm2, hm3, _⟩ := id hB
      refine iteF ⟨_, rfl, _, rfl, p, _, dx, _, _, rfl, s12 _ _ hp, T.cl_Shelf, T.na_Shelf_by_name, rfl, _, rfl, d, .ref b, rfl, by rw [← hov]; exact DGet.k (k := Sum.inr o) (s12 _ _ hd), b, _, dxv, _, _, rfl, s12 _ _ hb, T.cl_Unit, T.na_Unit_bars, rfl, m3, _, rfl, .inr (tup_same s12 hm3), rfl, strs_flat _, _, rfl, ?_⟩
      rw [inV_str]
      by_cases c3 : w ∈ v.bars
      · rw [decide_eq_true c3] at wb ⊢
        exact iteT ⟨_, rfl, _, w2, hlen, yes (by rw [wb]; rfl)⟩
      · rw [decide_eq_false c3] at wb ⊢
        refine iteF ⟨s2, ?_⟩
        rw [take_filter_snoc _ ho, if_neg (by rw [wb]; exact Bool.false_ne_true), List.append_nil]
        exact w2
    · rintro H2 ⟨s2, w2⟩
      rw [List.length_map, List.take_length] at w2
      exact q D H2 (s1.free nD) (s1.trans s2) w2
/-- one pair more -/
theorem pair_put {H1 H2 : Hp} {D t : Addr} {xs : List V} {ds : List (Str × Str)} {a b : Str} (s : Same H1 H2) (nD : H1 D = none) (w : H2 D = some (.lst xs)) (p : PrH H2 xs ds) (n : H2 t = none) :
    Same H1 (upd (upd H2 t (.tup [.str a, .str b])) D (.lst (xs ++ [.ref t]))) ∧ ∃ ys, (upd (upd H2 t (.tup [.str a, .str b])) D (.lst (xs ++ [.ref t]))) D = some (.lst ys) ∧ PrH (upd (upd H2 t (.tup [.str a, .str b])) D (.lst (xs ++ [.ref t]))) ys (ds ++ [(a, b)]) := by
  have st : Same H2 (upd H2 t (.tup [.str a, .str b])) := same_upd n
  have wD := st _ _ w
  have m : Kp D (upd H2 t (.tup [.str a, .str b])) (upd (upd H2 t (.tup [.str a, .str b])) D (.lst (xs ++ [.ref t]))) := mut_keep rfl
  refine ⟨Same.own (s.trans st) m nD, _, upd_same, ((p.same st).keep m (.lst wD)).app (.cons (d := (a, b)) (m _ _ upd_same (ne_some w n).symm) .nil)⟩

-- SPLIT
/-! ### a stand -/
structure SF where
  wished : List Str
  up : List Str
  later : List Str
  back : List Str
def SStr (s : SF) : Prop := ∀ x ∈ s.wished ++ s.up ++ s.later ++ s.back, PyData.strOk x = true
theorem SStr.wi {s : SF} (h : SStr s) : ∀ x ∈ s.wished, PyData.strOk x = true := fun x m => h x (by simp only [List.mem_append]; exact .inl (.inl (.inl m)))
theorem SStr.up {s : SF} (h : SStr s) : ∀ x ∈ s.up, PyData.strOk x = true := fun x m => h x (by simp only [List.mem_append]; exact .inl (.inl (.inr m)))
theorem SStr.la {s : SF} (h : SStr s) : ∀ x ∈ s.later, PyData.strOk x = true := fun x m => h x (by simp only [List.mem_append]; exact .inl (.inr m))
theorem SStr.ba {s : SF} (h : SStr s) : ∀ x ∈ s.back, PyData.strOk x = true := fun x m => h x (by simp only [List.mem_append]; exact .inr m)
abbrev sFs (w u l b : V) : List (Str × V) := [("wished", w), ("up", u), ("later", l), ("back", b)]
def sp_Stand_init (K : PySem.W.Frag) : Sp := fun vs H Q _ => ∃ (p dx : Addr) (v1 v2 v3 v4 : V), vs = [.ref p, v1, v2, v3, v4] ∧ H p = some (.ins (He.ga K "Stand") dx []) ∧
  ∀ H', H' p = some (.ins (He.ga K "Stand") dx (sFs v1 v2 v3 v4)) → Kp p H H' → Q .non H'
theorem ok_Stand_init (T : Txt K mg) : FnOk P w K mg base CX0 1 (He.fAd K ("Stand", some "__init__")) T.d_Stand_init ["self", "wished", "up", "later", "back"] (sp_Stand_init K) := by
  refine T.F_Stand_init.ok sc_Stand_init (fun vs H Q E h => ?_) (fun cdv A outer s H vs Q E hr h => ?_)
  · obtain ⟨p, dx, v1, v2, v3, v4, rfl, _⟩ := h
    rfl
  · obtain ⟨p, dx, v1, v2, v3, v4, rfl, hp, q⟩ := h
    refine ⟨_, PSs.nox (pss_cons (ps_fld (pv 0) (pv 1) rfl)
      (pss_cons (ps_fld (pv 0) (pv 2) rfl)
      (pss_cons (ps_fld (pv 0) (pv 3) rfl)
      (pss_one (ps_fld (pv 0) (pv 4) rfl))))), ?_⟩
    refine ⟨_, rfl, _, rfl, p, _, dx, [], rfl, hp, T.cl_Stand, T.na_Stand_wished, (by show 0 < 1000; decide), ?_⟩
    refine ⟨_, rfl, _, rfl, p, _, dx, _, rfl, upd_same, T.cl_Stand, T.na_Stand_up, (by show 1 < 1000; decide), ?_⟩
    refine ⟨_, rfl, _, rfl, p, _, dx, _, rfl, upd_same, T.cl_Stand, T.na_Stand_later, (by show 2 < 1000; decide), ?_⟩
    refine ⟨_, rfl, _, rfl, p, _, dx, _, rfl, upd_same, T.cl_Stand, T.na_Stand_back, (by show 3 < 1000; decide), ?_⟩
    refine q _ upd_same fun c o h n => ?_
    rw [upd_ne n, upd_ne n, upd_ne n, upd_ne n]
    exact h
/-- a stand stands at p -/
def StandAt (K : PySem.W.Frag) (H : Hp) (p : Addr) (s : SF) : Prop := ∃ (dx w u l b : Addr), H p = some (.ins (He.ga K "Stand") dx (sFs (.ref w) (.ref u) (.ref l) (.ref b))) ∧
  SqT K H w (s.wished.map V.str) ∧ SqT K H u (s.up.map V.str) ∧ SqT K H l (s.later.map V.str) ∧ SqT K H b (s.back.map V.str)
theorem StandAt.same {H H' : Hp} {p : Addr} {s : SF} (h : StandAt K H p s) (e : Same H H') : StandAt K H' p s := by
  obtain ⟨dx, w, u, l, b, h0, h1, h2, h3, h4⟩ := h
  exact ⟨dx, w, u, l, b, e _ _ h0, tup_same e h1, tup_same e h2, tup_same e h3, tup_same e h4⟩
theorem StandAt.keep {H H' : Hp} {p q : Addr} {s : SF} {n : Nat} (h : StandAt K H p s) (k : Kp q H H') (B : Bag n H q) : StandAt K H' p s := by
  obtain ⟨_, _, _, hq, _⟩ := B.ex
  have nt := NotTp.lst hq
  obtain ⟨dx, w, u, l, b, h0, h1, h2, h3, h4⟩ := h
  exact ⟨dx, w, u, l, b, k _ _ h0 (fun e => by rw [e, hq] at h0; cases h0), k.tup nt h1, k.tup nt h2, k.tup nt h3, k.tup nt h4⟩

def openL (s : SF) : List Str := s.wished.filter fun x => decide (x ∉ s.up)
def sp_open_in (K : PySem.W.Frag) : Sp := fun vs H Q _ => ∃ (p : Addr) (s : SF), vs = [.ref p] ∧ StandAt K H p s ∧ s.wished.length ≤ 100 ∧
  ∀ l H', H l = none → Same H H' → H' l = some (.lst ((openL s).map V.str)) → Q (.ref l) H'
theorem ok_open_in (T : Txt K mg) : FnOk P w K mg base CX0 1 (He.fAd K ("open_in", none)) T.d_open_in ["stand"] (sp_open_in K) := by
  refine T.F_open_in.ok sc_open_in (fun vs H Q E h => ?_) (fun cdv A outer s H vs Q E hr h => ?_)
  · obtain ⟨p, s, rfl, _⟩ := h
    rfl
  · obtain ⟨p, s, rfl, hp, hl, q⟩ := h
    refine ⟨_, PSs.nox (pss_one (ps_ret (pe_lc (own := [("name", 1)]) (by rfl) sc_open_in.nd (pi_tup (pe_fld (pv 0) rfl)) (blkOk_by (own := [("name", 1)]) (N := N_open_in) (sc := defScope s_open_in) (by decide +kernel)) (fun _ _ _ _ _ => (pg_name (i := 1) sc_open_in.nd rfl (Or.inl rfl))) (fun _ _ _ _ _ => by exact (pts_one (pt_cmpR (r := rIn K true) op_notIn_seq (pv 1) (UP.pe_fldK (K := K) (by rfl) (pv 0) (by rfl)) (by rfl)))) (fun _ _ _ _ _ => (pv 1))))), ?_⟩
    obtain ⟨dx, aw, au, al, ab, hp0, hw, hu, _, _⟩ := hp
    refine ⟨_, rfl, p, _, dx, _, _, rfl, hp0, T.cl_Stand, T.na_Stand_wished, rfl, aw, rfl, ⟨_, hw⟩, fun D nD => lc_tup (K := K) (a := aw) (xs := s.wished.map V.str) (fun i H' => Same H H' ∧ H' D = some (.lst (((s.wished.take i).filter fun x => decide (x ∉ s.up)).map V.str))) ⟨same_upd nD, upd_same⟩
      (fun i H' _ hp => tup_same hp.1 hw) ?_ ?_⟩
    · rintro i y H9 hy ⟨s9, w9⟩
      rw [List.getElem?_map] at hy
      obtain ⟨x, hx, rfl⟩ := Option.map_eq_some_iff.mp hy
      have hi : i < s.wished.length := (List.getElem?_eq_some_iff.mp hx).1
      rw [List.take_add_one, hx, Option.toList_some, List.filter_append]
      refine ⟨rfl, ?_⟩
      refine ⟨_, rfl, _, rfl, p, _, dx, _, _, rfl, s9 _ _ hp0, T.cl_Stand, T.na_Stand_up, rfl, au, _, rfl, .inr (tup_same s9 hu), rfl, strs_flat s.up, _, rfl, ?_⟩
      rw [inV_str]
      by_cases hin : x ∈ s.up
      · rw [decide_eq_true hin]
        refine iteF ⟨s9, ?_⟩
        rw [List.filter_cons_of_neg (p := fun x => decide (x ∉ s.up)) (by rw [decide_eq_false (fun z => z hin)]; exact Bool.false_ne_true), List.filter_nil, List.append_nil]
        exact w9
      · rw [decide_eq_false hin]
        refine iteT ⟨_, rfl, _, w9, ?_, Same.own (q := D) (H1 := H9) s9 (mut_keep rfl) nD, ?_⟩
        · rw [List.length_map]
          refine Nat.lt_of_le_of_lt (List.length_filter_le _ _) (Nat.lt_of_le_of_lt (List.length_take_le _ _) (small1000 (by omega)))
        · rw [upd_same, List.filter_cons_of_pos (p := fun x => decide (x ∉ s.up)) (decide_eq_true hin), List.map_append]
          rfl
    · rintro H9 ⟨s9, w9⟩
      rw [List.length_map, List.take_length] at w9
      exact q D H9 nD s9 w9

-- SPLIT
/-! ### a comprehension with two walks -/
/-- the inner walk, ending in Nx -/
abbrev Inn (g1 : TG) (tt1 : TT) (te : TE) (vs1 : List Nat) (D : Addr) (σ2 : L2.St) (Nx : Hp → Prop) (J1 : It) (H4 : Hp) : Prop := ∃ W1 : Nat → Nat → Hp → Prop, (∃ m, W1 0 m H4) ∧ ∀ j k H, W1 j k H →
      (J1.stop j H ∧ Nx H) ∨ (J1.go j H ∧ ∃ Nx1 : Hp → Prop, (∀ H', Nx1 H' → ∃ k', k' < k ∧ W1 (j + 1) k' H') ∧ ∀ x H', J1.yld j H x H' → g1 x (wipe σ2 vs1) H' fun σ3 H5 => wipe σ3 vs1 = wipe σ2 vs1 ∧ tt1 σ3 H5 fun b H6 =>
        if b = true then te σ3 H6 fun y H7 => ∃ acc, H7 D = some (.lst acc) ∧ acc.length < sizeLine ∧ Nx1 (upd H7 D (.lst (acc ++ [y]))) else Nx1 H6)
theorem inn_it {J : It} {n : Nat} {G : Hp → Prop} {Y : Nat → Hp → V → Hp → Prop} (w : Walk J n G Y) {g1 : TG} {tt1 : TT} {te : TE} {vs1 : List Nat} {D : Addr} {σ2 : L2.St} {Nx : Hp → Prop} {H4 : Hp} (Pv : Nat → Hp → Prop) (h0 : Pv 0 H4) (hG : ∀ i H, i ≤ n → Pv i H → G H)
    (hs : ∀ i x H H', i < n → Pv i H → Y i H x H' → g1 x (wipe σ2 vs1) H' fun σ3 H5 => wipe σ3 vs1 = wipe σ2 vs1 ∧ tt1 σ3 H5 fun b H6 =>
        if b = true then te σ3 H6 fun y H7 => ∃ acc, H7 D = some (.lst acc) ∧ acc.length < sizeLine ∧ Pv (i + 1) (upd H7 D (.lst (acc ++ [y]))) else Pv (i + 1) H6) (hd : ∀ H, Pv n H → Nx H) : Inn g1 tt1 te vs1 D σ2 Nx J H4 := by
  refine ⟨fun i m H => i ≤ n ∧ m = n - i ∧ Pv i H, ⟨n, Nat.zero_le _, rfl, h0⟩, ?_⟩
  rintro i m H ⟨hi, rfl, hp⟩
  by_cases c : i < n
  · exact .inr ⟨w.goes i H c (hG i H hi hp), Pv (i + 1), fun H' h => ⟨n - (i + 1), by omega, by omega, rfl, h⟩, fun x H' y => hs i x H H' c hp (w.yields i H x H' c (hG i H hi hp) y)⟩
  · obtain rfl : i = n := by omega
    exact .inl ⟨w.stops H (hG i H hi hp), hd H hp⟩
theorem lc2_it {J : It} {n : Nat} {G : Hp → Prop} {Y : Nat → Hp → V → Hp → Prop} (w : Walk J n G Y) {g g1 : TG} {tt tt1 : TT} {te : TE} {wi1 : TI} {vs vs1 : List Nat} {σ : L2.St} {H1 : Hp} {D : Addr} {Qd : Hp → Prop} (Pv : Nat → Hp → Prop) (h0 : Pv 0 (upd H1 D (.lst []))) (hG : ∀ i H, i ≤ n → Pv i H → G H)
    (hs : ∀ i x H H', i < n → Pv i H → Y i H x H' → g x (wipe σ vs) H' fun σ2 H2 => wipe σ2 vs = wipe σ vs ∧ tt σ2 H2 fun b H3 => if b = true then wi1 σ2 H3 (Inn g1 tt1 te vs1 D σ2 (Pv (i + 1))) else Pv (i + 1) H3) (hd : ∀ H, Pv n H → Qd H) :
    ∃ W : Nat → Nat → Hp → Prop, (∃ m, W 0 m (upd H1 D (.lst []))) ∧ ∀ i m H, W i m H →
      (J.stop i H ∧ Qd H) ∨ (J.go i H ∧ ∃ Nx : Hp → Prop, (∀ H', Nx H' → ∃ m', m' < m ∧ W (i + 1) m' H') ∧ ∀ x H', J.yld i H x H' → g x (wipe σ vs) H' fun σ2 H2 => wipe σ2 vs = wipe σ vs ∧ tt σ2 H2 fun b H3 => if b = true then wi1 σ2 H3 fun J1 H4 => ∃ W1 : Nat → Nat → Hp → Prop, (∃ m, W1 0 m H4) ∧ ∀ j k H, W1 j k H →
          (J1.stop j H ∧ Nx H) ∨ (J1.go j H ∧ ∃ Nx1 : Hp → Prop, (∀ H', Nx1 H' → ∃ k', k' < k ∧ W1 (j + 1) k' H') ∧ ∀ x H', J1.yld j H x H' → g1 x (wipe σ2 vs1) H' fun σ3 H5 => wipe σ3 vs1 = wipe σ2 vs1 ∧ tt1 σ3 H5 fun b H6 =>
            if b = true then te σ3 H6 fun y H7 => ∃ acc, H7 D = some (.lst acc) ∧ acc.length < sizeLine ∧ Nx1 (upd H7 D (.lst (acc ++ [y]))) else Nx1 H6)
        else Nx H3) := by
  refine ⟨fun i m H => i ≤ n ∧ m = n - i ∧ Pv i H, ⟨n, Nat.zero_le _, rfl, h0⟩, ?_⟩
  rintro i m H ⟨hi, rfl, hp⟩
  by_cases c : i < n
  · exact .inr ⟨w.goes i H c (hG i H hi hp), Pv (i + 1), fun H' h => ⟨n - (i + 1), by omega, by omega, rfl, h⟩, fun x H' y => hs i x H H' c hp (w.yields i H x H' c (hG i H hi hp) y)⟩
  · obtain rfl : i = n := by omega
    exact .inl ⟨w.stops H (hG i H hi hp), hd H hp⟩

/-! ### whether a stand fits -/
theorem lineN {n : Nat} (h : n ≤ 1000) : n ≤ sizeLine := Nat.le_of_lt (small1000 h)
theorem all_dec {α : Type} (p : α → Prop) [DecidablePred p] (xs : List α) : (xs.map fun x => decide (p x)).all id = decide (∀ x ∈ xs, p x) := by
  rw [List.all_map]
  induction xs with
  | nil => rfl
  | cons x xs ih =>
    rw [List.all_cons, ih]
    by_cases c : p x
    · show (decide (p x) && _) = _
      rw [decide_eq_true c, Bool.true_and]
      exact decide_eq_decide.mpr ⟨fun h y hy => (List.mem_cons.mp hy).elim (fun e => e ▸ c) (h y), fun h y hy => h y (List.mem_cons_of_mem _ hy)⟩
    · show (decide (p x) && _) = _
      rw [decide_eq_false c, Bool.false_and]
      exact (decide_eq_false fun h => c (h x (List.mem_cons_self ..))).symm
theorem fu_mem {us : List (Str × UF)} {x : Str} {u : UF} (h : fu us x = some u) : (x, u) ∈ us := by
  unfold fu at h
  obtain ⟨q, hq, rfl⟩ := Option.map_eq_some_iff.mp h
  have h0 := List.find?_some hq
  have h1 : q.1 = x := of_decide_eq_true h0
  have h2 := List.mem_of_find?_eq_some hq
  rw [← h1]
  exact h2
theorem SF.ok_all {s : SF} (h : ∀ x ∈ s.wished ++ s.up ++ s.later ++ s.back, PyData.strOk x = true) : SStr s := h
def SFew (s : SF) : Prop := s.wished.length ≤ 40 ∧ s.up.length ≤ 40 ∧ s.later.length ≤ 40 ∧ s.back.length ≤ 40
def sp_all_there (K : PySem.W.Frag) : Sp := fun vs H Q _ => ∃ (p c : Addr) (us : List (Str × UF)) (s : SF), vs = [.ref p, .ref c] ∧ ShelfAt K H p us ∧ Nms us ∧ StandAt K H c s ∧ SFew s ∧
  ∀ H', Same H H' → Q (.bl (decide (∀ x ∈ s.wished ++ s.up ++ s.later ++ s.back, x ∈ us.map (·.1)))) H'
theorem ok_all_there (T : Txt K mg) : FnOk P w K mg base CX0 5 (He.fAd K ("all_there", none)) T.d_all_there ["shelf", "stand"] (sp_all_there K) := by
  refine T.F_all_there.ok sc_all_there (fun vs H Q E h => ?_) (fun cdv A outer s H vs Q E hr h => ?_)
  · obtain ⟨p, c, us, s, rfl, _⟩ := h
    rfl
  · obtain ⟨p, c, us, s, rfl, hS, hN, hC, few, q⟩ := h
    refine ⟨_, PSs.nox (pss_one (ps_ret (pe_callB (id := "all")  (cr_all rfl) (by rfl) T.n_all (by decide +kernel) (pa_cons (pe_lc (own := [("name", 2)]) (by rfl) sc_all_there.nd (pi_tup (pe_op op_catA (pe_op op_catA (pe_op op_catA (pe_fld (pv 1) rfl) (pe_fld (pv 1) rfl)) (pe_fld (pv 1) rfl)) (pe_fld (pv 1) rfl))) (blkOk_by (own := [("name", 2)]) (N := N_all_there) (sc := defScope s_all_there) (by decide +kernel)) (fun _ _ _ _ _ => (pg_name (i := 2) sc_all_there.nd rfl (Or.inl rfl))) (fun _ _ _ _ _ => pts_nil) (fun _ _ _ _ _ => by exact (pe_meth (pv 0) T.cl_Shelf T.me_Shelf_has (ok_Shelf_has T) (hr.mono (by decide)) T.b_Shelf_has .nil pass0 (pa_cons (pv 2) pa_nil)))) pa_nil)))), ?_⟩
    obtain ⟨dx, aw, au, al, ab, hc, hw, hu, hl, hb⟩ := hC
    obtain ⟨f1, f2, f3, f4⟩ := few
    refine ⟨_, rfl, c, _, dx, _, _, rfl, hc, T.cl_Stand, T.na_Stand_wished, rfl, _, rfl, c, _, dx, _, _, rfl, hc, T.cl_Stand, T.na_Stand_up, rfl, catA hw hu (by rw [List.length_map, List.length_map]; omega) fun t1 H1 s1 q1 => ?_⟩
    refine ⟨_, rfl, c, _, dx, _, _, rfl, s1 _ _ hc, T.cl_Stand, T.na_Stand_later, rfl, catA q1 (tup_same s1 hl) (by rw [List.length_append, List.length_map, List.length_map, List.length_map]; omega) fun t2 H2 s2 q2 => ?_⟩
    have s02 := s1.trans s2
    refine ⟨_, rfl, c, _, dx, _, _, rfl, s02 _ _ hc, T.cl_Stand, T.na_Stand_back, rfl, catA q2 (tup_same s02 hb) (by rw [List.length_append, List.length_append, List.length_map, List.length_map, List.length_map, List.length_map]; omega) fun t3 H3 s3 q3 => ?_⟩
    have s03 := s02.trans s3
    rw [← List.map_append, ← List.map_append, ← List.map_append] at q3
    have alen : (s.wished ++ s.up ++ s.later ++ s.back).length ≤ 160 := by
      rw [List.length_append, List.length_append, List.length_append]
      omega
    obtain ⟨all, hall⟩ : ∃ all, s.wished ++ s.up ++ s.later ++ s.back = all := ⟨_, rfl⟩
    rw [hall] at q3 alen q
    refine ⟨t3, rfl, ⟨_, q3⟩, fun D nD => lc_tup (K := K) (a := t3) (xs := all.map V.str) (fun i H' => Same H3 H' ∧ H' D = some (.lst (((all.take i).map fun x => decide (x ∈ us.map (·.1))).map V.bl))) ⟨same_upd nD, upd_same⟩ (fun i H' _ h => tup_same h.1 q3) ?_ ?_⟩
    · rintro i x H4 hi ⟨s4, w4⟩
      obtain ⟨o, ho, rfl⟩ := map_str_get hi
      have s04 := s03.trans s4
      obtain ⟨dxs, d0, kv0, hp, _⟩ := id (hS.same s04)
      refine ⟨rfl, yes_of (iteT ⟨_, rfl, p, dxs, _, rfl, hp, rfl, _, rfl, p, o, us, rfl, hS.same s04, hN, _, w4, ?_, Same.own (q := D) (H1 := H4) s4 (mut_keep rfl) nD, ?_⟩)⟩
      · rw [List.length_map, List.length_map]
        exact Nat.lt_of_le_of_lt (List.length_take_le' ..) (small1000 (by omega))
      · rw [upd_same, take_snoc ho, List.map_append, List.map_append]
        rfl
    · rintro H4 ⟨s4, w4⟩
      rw [List.length_map, List.take_length] at w4
      refine ⟨D, _, rfl, SqL.of w4, ?_⟩
      rw [all_dec]
      exact q H4 (s03.trans s4)
-- SPLIT
def sp_needs_wished (K : PySem.W.Frag) : Sp := fun vs H Q _ => ∃ (p c : Addr) (us : List (Str × UF)) (s : SF), vs = [.ref p, .ref c] ∧ ShelfAt K H p us ∧ Nms us ∧ (∀ p ∈ us, p.2.needs.length ≤ 100) ∧ StandAt K H c s ∧ SFew s ∧ (∀ x ∈ s.wished ++ s.later, x ∈ us.map (·.1)) ∧
  ∀ H', Same H H' → Q (.bl (decide (∀ x ∈ s.wished ++ s.later, ∀ u, fu us x = some u → ∀ o ∈ u.needs, o ∈ s.wished))) H'
theorem ok_needs_wished (T : Txt K mg) : FnOk P w K mg base CX0 5 (He.fAd K ("needs_wished", none)) T.d_needs_wished ["shelf", "stand"] (sp_needs_wished K) := by
  refine T.F_needs_wished.ok sc_needs_wished (fun vs H Q E h => ?_) (fun cdv A outer s H vs Q E hr h => ?_)
  · obtain ⟨p, c, us, s, rfl, _⟩ := h
    rfl
  · obtain ⟨p, c, us, s, rfl, hS, hN, hF, hC, few, hin, q⟩ := h
    refine ⟨_, PSs.nox (pss_cons (ps_setLc2 (i := 2) (own := [("name", 3), ("other", 4)]) (vs1 := [4]) (by rfl) sc_needs_wished.nd rfl rfl (sw_true rfl rfl rfl (by decide +kernel)) (pi_tup (pe_op op_catA (pe_fld (pv 1) rfl) (pe_fld (pv 1) rfl))) (blkOk_by (own := [("name", 3), ("other", 4)]) (N := N_needs_wished) (sc := defScope s_needs_wished) (by decide +kernel)) (by decide) (fun _ _ _ _ _ => (pg_name (i := 3) sc_needs_wished.nd rfl (Or.inl rfl))) (fun _ _ _ _ _ => pts_nil) (fun _ _ _ _ _ => by exact (UP.pi_tupK (K := K) (by rfl) (UP.pe_fldK (K := K) (by rfl) (pe_meth (pv 0) T.cl_Shelf T.me_Shelf_unit (ok_Shelf_unit T) (hr.mono (by decide)) T.b_Shelf_unit .nil pass0 (pa_cons (pv 3) pa_nil)) (by rfl)))) (fun _ _ _ _ _ => (pg_name (i := 4) sc_needs_wished.nd rfl (Or.inl rfl))) (fun _ _ _ _ _ => pts_nil) (fun _ _ _ _ _ => (pv 4)))
      (pss_one (ps_ret (pe_callB (id := "all")  (cr_all rfl) (by rfl) T.n_all (by decide +kernel) (pa_cons (pe_lc (own := [("other", 4)]) (by rfl) sc_needs_wished.nd (pi_list (pv 2)) (blkOk_by (own := [("other", 4)]) (N := N_needs_wished) (sc := defScope s_needs_wished) (by decide +kernel)) (fun _ _ _ _ _ => (pg_name (i := 4) sc_needs_wished.nd rfl (Or.inl rfl))) (fun _ _ _ _ _ => pts_nil) (fun _ _ _ _ _ => by exact (pe_cmpR (r := rIn K false) op_in_seq (pv 4) (UP.pe_fldK (K := K) (by rfl) (pv 1) (by rfl)) (by rfl)))) pa_nil))))), ?_⟩
    obtain ⟨dx, aw, au, al, ab, hc, hw, hu, hl, hb⟩ := hC
    obtain ⟨f1, f2, f3, f4⟩ := few
    refine ⟨_, rfl, c, _, dx, _, _, rfl, hc, T.cl_Stand, T.na_Stand_wished, rfl, _, rfl, c, _, dx, _, _, rfl, hc, T.cl_Stand, T.na_Stand_later, rfl, catA hw hl (by rw [List.length_map, List.length_map]; omega) fun t1 H1 s1 q1 => ?_⟩
    rw [← List.map_append] at q1
    have alen : (s.wished ++ s.later).length ≤ 80 := by
      rw [List.length_append]
      omega
    obtain ⟨all, hall⟩ : ∃ all, s.wished ++ s.later = all := ⟨_, rfl⟩
    rw [hall] at q1 alen q hin
    let nf : Str → List Str := fun x => match fu us x with | some u => u.needs | none => []
    have nfl : ∀ x, (nf x).length ≤ 100 := fun x => by
      show (match fu us x with | some u => u.needs | none => []).length ≤ 100
      cases e : fu us x with
      | none => exact Nat.zero_le _
      | some u => exact hF _ (fu_mem e)
    have fl : ∀ xs : List Str, (xs.flatMap nf).length ≤ 100 * xs.length := fun xs => by
      induction xs with
      | nil => exact Nat.le_refl _
      | cons x xs ih =>
        rw [List.flatMap_cons, List.length_append, List.length_cons]
        have := nfl x
        omega
    refine ⟨t1, rfl, ⟨_, q1⟩, fun D nD => lc2_it (walk_tup (K := K) (a := t1) (xs := all.map V.str)) (fun i H' => Same H1 H' ∧ H' D = some (.lst (((all.take i).flatMap nf).map V.str))) ⟨same_upd nD, upd_same⟩ (fun i H' _ h => tup_same h.1 q1) ?_ ?_⟩
    · rintro i x H2 H2' hi ⟨s2, w2⟩ ⟨rfl, hx⟩
      obtain ⟨o, ho, rfl⟩ := map_str_get hx
      have hom : o ∈ us.map (·.1) := hin o (List.mem_of_getElem? ho)
      have hi80 : i < 80 := by
        have := (List.getElem?_eq_some_iff.mp ho).1
        omega
      have s02 := s1.trans s2
      obtain ⟨dxs, d0, kv0, hp, _⟩ := id (hS.same s02)
      refine ⟨rfl, yes_of (iteT ⟨_, rfl, p, dxs, _, rfl, hp, rfl, _, rfl, p, o, us, rfl, hS.same s02, hN, hom, fun a u hu hA => ?_⟩)⟩
      have hfu := fu_some hN.nd hu
      have hnf : nf o = u.needs := by
        show (match fu us o with | some u => u.needs | none => []) = u.needs
        rw [hfu]
      obtain ⟨dxu, n1, n2, n3, n4, r, ha, hn1, _⟩ := id hA
      refine ⟨a, _, dxu, _, _, rfl, ha, T.cl_Unit, T.na_Unit_needs, rfl, n1, rfl, ⟨_, hn1⟩, ?_⟩
      refine inn_it (walk_tup (K := K) (a := n1) (xs := u.needs.map V.str)) (fun j H' => Same H1 H' ∧ H' D = some (.lst ((((all.take i).flatMap nf) ++ u.needs.take j).map V.str)) ∧ SqT K H' n1 (u.needs.map V.str)) ⟨s2, by rw [List.take_zero, List.append_nil]; exact w2, hn1⟩ (fun j H' _ h => h.2.2) ?_ ?_
      · rintro j x H3 H3' hj ⟨s3, w3, t3⟩ ⟨rfl, hx⟩
        obtain ⟨o2, ho2, rfl⟩ := map_str_get hx
        have hj1 : j < u.needs.length := (List.getElem?_eq_some_iff.mp ho2).1
        have hul := hF _ hu
        refine ⟨rfl, yes_of (iteT ⟨_, rfl, _, w3, ?_, ?_⟩)⟩
        · rw [List.length_map, List.length_append]
          have h1 := fl (all.take i)
          have h2 : (all.take i).length ≤ i := List.length_take_le ..
          have h3 : (u.needs.take j).length ≤ j := List.length_take_le ..
          refine Nat.lt_of_lt_of_le (show _ < 10000 from ?_) (by decide)
          have hul : u.needs.length ≤ 100 := hul
          have : 100 * (all.take i).length ≤ 100 * 80 := Nat.mul_le_mul_left _ (by omega)
          omega
        · refine ⟨Same.own (q := D) (H1 := H3') s3 (mut_keep rfl) nD, ?_, (mut_keep rfl : Kp D H3' _).tup (NotTp.lst w3) t3⟩
          rw [upd_same, take_snoc ho2, ← List.append_assoc, List.map_append (l₂ := [o2])]
          rfl
      · rintro H3 ⟨s3, w3, t3⟩
        rw [List.length_map, List.take_length] at w3
        refine ⟨s3, ?_⟩
        rw [take_snoc ho, List.flatMap_append, List.flatMap_cons, List.flatMap_nil, List.append_nil, hnf]
        exact w3
    · rintro H2 ⟨s2, w2⟩
      rw [List.length_map, List.take_length] at w2
      have s02 := s1.trans s2
      obtain ⟨ned', hned⟩ : ∃ xs, all.flatMap nf = xs := ⟨_, rfl⟩
      have nlen : ned'.length ≤ 8000 := by
        have := fl all
        rw [hned] at this
        omega
      have nmem : (∀ x ∈ ned', x ∈ s.wished) ↔ ∀ x ∈ all, ∀ u, fu us x = some u → ∀ o ∈ u.needs, o ∈ s.wished := by
        rw [← hned]
        refine ⟨fun h x hx u hu o ho => h o (List.mem_flatMap.mpr ⟨x, hx, ?_⟩), fun h o ho => ?_⟩
        · show o ∈ (match fu us x with | some u => u.needs | none => [])
          rw [hu]
          exact ho
        · obtain ⟨x, hx, hox⟩ := List.mem_flatMap.mp ho
          have hox : o ∈ (match fu us x with | some u => u.needs | none => []) := hox
          cases e : fu us x with
          | none => rw [e] at hox; cases hox
          | some u => rw [e] at hox; exact h x hx u e o hox
      rw [hned] at w2
      refine ⟨_, rfl, D, rfl, ⟨_, SqL.of w2⟩, fun A nA => lc_list (K := K) (a := D) (xs := ned'.map V.str) (fun i H' => Same H2 H' ∧ H' A = some (.lst (((ned'.take i).map fun x => decide (x ∈ s.wished)).map V.bl))) ⟨same_upd nA, upd_same⟩ (fun i H' _ h => SqL.of (h.1 _ _ w2)) ?_ ?_⟩
      · rintro i x H4 hi ⟨s4, w4⟩
        obtain ⟨o, ho, rfl⟩ := map_str_get hi
        have s04 := s02.trans s4
        refine ⟨rfl, yes_of (iteT ⟨_, rfl, _, rfl, c, _, dx, _, _, rfl, s04 _ _ hc, T.cl_Stand, T.na_Stand_wished, rfl, aw, _, rfl, .inr (tup_same s04 hw), rfl, strs_flat s.wished, ?_⟩)⟩
        rw [inV_str]
        refine ⟨_, w4, ?_, Same.own (q := A) (H1 := H4) s4 (mut_keep rfl) nA, ?_⟩
        · rw [List.length_map, List.length_map]
          refine Nat.lt_of_le_of_lt (List.length_take_le' ..) (Nat.lt_of_lt_of_le (show _ < 10000 by omega) (by decide))
        · rw [upd_same, take_snoc ho, List.map_append, List.map_append]
          rfl
      · rintro H4 ⟨s4, w4⟩
        rw [List.length_map, List.take_length] at w4
        refine ⟨A, _, rfl, SqL.of w4, ?_⟩
        rw [all_dec, decide_eq_decide.mpr nmem]
        exact q H4 (s02.trans s4)

-- SPLIT
def sp_none_barred (K : PySem.W.Frag) : Sp := fun vs H Q _ => ∃ (p c : Addr) (us : List (Str × UF)) (s : SF), vs = [.ref p, .ref c] ∧ ShelfAt K H p us ∧ Nms us ∧ StandAt K H c s ∧ SFew s ∧ (∀ x ∈ s.wished ++ s.later, x ∈ us.map (·.1)) ∧
  ∀ H', Same H H' → Q (.bl (decide (∀ x ∈ s.wished ++ s.later, ∀ o ∈ br us x, o ∉ s.wished ++ s.later ++ s.back))) H'
theorem ok_none_barred (T : Txt K mg) : FnOk P w K mg base CX0 5 (He.fAd K ("none_barred", none)) T.d_none_barred ["shelf", "stand"] (sp_none_barred K) := by
  refine T.F_none_barred.ok sc_none_barred (fun vs H Q E h => ?_) (fun cdv A outer s H vs Q E hr h => ?_)
  · obtain ⟨p, c, us, s, rfl, _⟩ := h
    rfl
  · obtain ⟨p, c, us, s, rfl, hS, hN, hC, few, hin, q⟩ := h
    refine ⟨_, PSs.nox (pss_cons (ps_setLc2 (i := 2) (own := [("name", 3), ("other", 4)]) (vs1 := [4]) (by rfl) sc_none_barred.nd rfl rfl (sw_true rfl rfl rfl (by decide +kernel)) (pi_tup (pe_op op_catA (pe_fld (pv 1) rfl) (pe_fld (pv 1) rfl))) (blkOk_by (own := [("name", 3), ("other", 4)]) (N := N_none_barred) (sc := defScope s_none_barred) (by decide +kernel)) (by decide) (fun _ _ _ _ _ => (pg_name (i := 3) sc_none_barred.nd rfl (Or.inl rfl))) (fun _ _ _ _ _ => pts_nil) (fun _ _ _ _ _ => by exact (UP.pi_listK (K := K) (by rfl) (pe_meth (pv 0) T.cl_Shelf T.me_Shelf_barred (ok_Shelf_barred T) (hr.mono (by decide)) T.b_Shelf_barred .nil pass0 (pa_cons (pv 3) pa_nil)))) (fun _ _ _ _ _ => (pg_name (i := 4) sc_none_barred.nd rfl (Or.inl rfl))) (fun _ _ _ _ _ => pts_nil) (fun _ _ _ _ _ => (pv 4)))
      (pss_one (ps_ret (pe_not (pe_callB (id := "any")  (cr_any rfl) (by rfl) T.n_any (by decide +kernel) (pa_cons (pe_lc (own := [("other", 4)]) (by rfl) sc_none_barred.nd (pi_list (pv 2)) (blkOk_by (own := [("other", 4)]) (N := N_none_barred) (sc := defScope s_none_barred) (by decide +kernel)) (fun _ _ _ _ _ => (pg_name (i := 4) sc_none_barred.nd rfl (Or.inl rfl))) (fun _ _ _ _ _ => pts_nil) (fun _ _ _ _ _ => by exact (pe_cmpR (r := rIn K false) op_in_seq (pv 4) (pe_op (r := rCatA K) op_catA (pe_op (r := rCatA K) op_catA (UP.pe_fldK (K := K) (by rfl) (pv 1) (by rfl)) (UP.pe_fldK (K := K) (by rfl) (pv 1) (by rfl))) (UP.pe_fldK (K := K) (by rfl) (pv 1) (by rfl))) (by rfl)))) pa_nil)))))), ?_⟩
    obtain ⟨dx, aw, au, al, ab, hc, hw, hu, hl, hb⟩ := hC
    obtain ⟨f1, f2, f3, f4⟩ := few
    refine ⟨_, rfl, c, _, dx, _, _, rfl, hc, T.cl_Stand, T.na_Stand_wished, rfl, _, rfl, c, _, dx, _, _, rfl, hc, T.cl_Stand, T.na_Stand_later, rfl, catA hw hl (by rw [List.length_map, List.length_map]; omega) fun t1 H1 s1 q1 => ?_⟩
    rw [← List.map_append] at q1
    have alen : (s.wished ++ s.later).length ≤ 80 := by
      rw [List.length_append]
      omega
    obtain ⟨all, hall⟩ : ∃ all, s.wished ++ s.later = all := ⟨_, rfl⟩
    rw [hall] at q1 alen q hin
    have bl : ∀ x, (br us x).length ≤ 16 := fun x => filt_len hN _
    have fl : ∀ xs : List Str, (xs.flatMap (br us)).length ≤ 16 * xs.length := fun xs => by
      induction xs with
      | nil => exact Nat.le_refl _
      | cons x xs ih =>
        rw [List.flatMap_cons, List.length_append, List.length_cons]
        have := bl x
        omega
    refine ⟨t1, rfl, ⟨_, q1⟩, fun D nD => lc2_it (walk_tup (K := K) (a := t1) (xs := all.map V.str)) (fun i H' => Same H1 H' ∧ H' D = some (.lst (((all.take i).flatMap (br us)).map V.str))) ⟨same_upd nD, upd_same⟩ (fun i H' _ h => tup_same h.1 q1) ?_ ?_⟩
    · rintro i x H2 H2' hi ⟨s2, w2⟩ ⟨rfl, hx⟩
      obtain ⟨o, ho, rfl⟩ := map_str_get hx
      have hom : o ∈ us.map (·.1) := hin o (List.mem_of_getElem? ho)
      have hi80 : i < 80 := by
        have := (List.getElem?_eq_some_iff.mp ho).1
        omega
      have s02 := s1.trans s2
      obtain ⟨dxs, d0, kv0, hp, _⟩ := id (hS.same s02)
      refine ⟨rfl, yes_of (iteT ⟨_, rfl, p, dxs, _, rfl, hp, rfl, _, rfl, p, o, us, rfl, hS.same s02, hN, hom, fun L H3 nL s3 wL => ?_⟩)⟩
      have nDL : D ≠ L := ne_some w2 nL
      refine ⟨L, rfl, ⟨_, SqL.of wL⟩, ?_⟩
      refine inn_it (walk_list (K := K) (a := L) (xs := (br us o).map V.str)) (fun j H' => Same H1 H' ∧ H' D = some (.lst ((((all.take i).flatMap (br us)) ++ (br us o).take j).map V.str)) ∧ H' L = some (.lst ((br us o).map V.str))) ⟨s2.trans s3, by rw [List.take_zero, List.append_nil]; exact s3 _ _ w2, wL⟩ (fun j H' _ h => SqL.of h.2.2) ?_ ?_
      · rintro j x H4 H4' hj ⟨s4, w4, t4⟩ ⟨rfl, hx⟩
        obtain ⟨o2, ho2, rfl⟩ := map_str_get hx
        have hj1 : j < (br us o).length := (List.getElem?_eq_some_iff.mp ho2).1
        have hul := bl o
        refine ⟨rfl, yes_of (iteT ⟨_, rfl, _, w4, ?_, ?_⟩)⟩
        · rw [List.length_map, List.length_append]
          have h1 := fl (all.take i)
          have h2 : (all.take i).length ≤ i := List.length_take_le ..
          have h3 : ((br us o).take j).length ≤ j := List.length_take_le ..
          refine Nat.lt_of_lt_of_le (show _ < 10000 from ?_) (by decide)
          have : 16 * (all.take i).length ≤ 16 * 80 := Nat.mul_le_mul_left _ (by omega)
          omega
        · refine ⟨Same.own (q := D) (H1 := H4') s4 (mut_keep rfl) nD, ?_, mut_keep rfl _ _ t4 nDL.symm⟩
          rw [upd_same, take_snoc ho2, ← List.append_assoc, List.map_append (l₂ := [o2])]
          rfl
      · rintro H4 ⟨s4, w4, t4⟩
        rw [List.length_map, List.take_length] at w4
        refine ⟨s4, ?_⟩
        rw [take_snoc ho, List.flatMap_append, List.flatMap_cons, List.flatMap_nil, List.append_nil]
        exact w4
    · rintro H2 ⟨s2, w2⟩
      rw [List.length_map, List.take_length] at w2
      have s02 := s1.trans s2
      obtain ⟨brs, hbrs⟩ : ∃ xs, all.flatMap (br us) = xs := ⟨_, rfl⟩
      have nlen : brs.length ≤ 8000 := by
        have := fl all
        rw [hbrs] at this
        omega
      rw [hbrs] at w2
      obtain ⟨held, hheld⟩ : ∃ xs, all ++ s.back = xs := ⟨_, rfl⟩
      rw [hheld] at q
      have nmem : (∀ x ∈ brs, x ∉ held) ↔ ∀ x ∈ all, ∀ o ∈ br us x, o ∉ held := by
        rw [← hbrs]
        refine ⟨fun h x hx o ho => h o (List.mem_flatMap.mpr ⟨x, hx, ho⟩), fun h o ho => ?_⟩
        obtain ⟨x, hx, hox⟩ := List.mem_flatMap.mp ho
        exact h x hx o hox
      refine ⟨_, rfl, D, rfl, ⟨_, SqL.of w2⟩, fun A nA => lc_list (K := K) (a := D) (xs := brs.map V.str) (fun i H' => Same H2 H' ∧ H' A = some (.lst (((brs.take i).map fun x => decide (x ∈ held)).map V.bl))) ⟨same_upd nA, upd_same⟩ (fun i H' _ h => SqL.of (h.1 _ _ w2)) ?_ ?_⟩
      · rintro i x H4 hi ⟨s4, w4⟩
        obtain ⟨o, ho, rfl⟩ := map_str_get hi
        have s04 := s02.trans s4
        refine ⟨rfl, yes_of (iteT ⟨_, rfl, _, rfl, c, _, dx, _, _, rfl, s04 _ _ hc, T.cl_Stand, T.na_Stand_wished, rfl, _, rfl, c, _, dx, _, _, rfl, s04 _ _ hc, T.cl_Stand, T.na_Stand_later, rfl, catA (tup_same s04 hw) (tup_same s04 hl) (by rw [List.length_map, List.length_map]; omega) fun t5 H5 s5 q5 => ?_⟩)⟩
        have s05 := s04.trans s5
        refine ⟨_, rfl, c, _, dx, _, _, rfl, s05 _ _ hc, T.cl_Stand, T.na_Stand_back, rfl, catA q5 (tup_same s05 hb) (by rw [List.length_append, List.length_map, List.length_map, List.length_map]; omega) fun t6 H6 s6 q6 => ?_⟩
        rw [← List.map_append, ← List.map_append, hall, hheld] at q6
        have s46 := s5.trans s6
        refine ⟨t6, _, rfl, .inr q6, rfl, strs_flat held, ?_⟩
        rw [inV_str]
        refine ⟨_, s46 _ _ w4, ?_, Same.own (q := A) (H1 := H6) (s4.trans s46) (mut_keep rfl) nA, ?_⟩
        · rw [List.length_map, List.length_map]
          refine Nat.lt_of_le_of_lt (List.length_take_le' ..) (Nat.lt_of_lt_of_le (show _ < 10000 by omega) (by decide))
        · rw [upd_same, take_snoc ho, List.map_append, List.map_append]
          rfl
      · rintro H4 ⟨s4, w4⟩
        rw [List.length_map, List.take_length] at w4
        refine ⟨A, _, rfl, SqL.of w4, ?_⟩
        have hval : (!(brs.map fun x => decide (x ∈ held)).any id) = decide (∀ x ∈ all, ∀ o ∈ br us x, o ∉ held) := by
          rw [← decide_eq_decide.mpr nmem, ← all_dec]
          rw [List.any_map, List.all_map, List.not_any_eq_all_not]
          congr 1
          funext x
          show (!decide (x ∈ held)) = decide (x ∉ held)
          by_cases c : x ∈ held
          · rw [decide_eq_true c, decide_eq_false fun z => z c]
            rfl
          · rw [decide_eq_false c, decide_eq_true c]
            rfl
        refine ⟨_, rfl, ?_⟩
        show Q (V.bl (!(brs.map fun x => decide (x ∈ held)).any id)) H4
        rw [hval]
        exact q H4 (s02.trans s4)
-- SPLIT
theorem nodup_len : ∀ {xs ds : List Str}, ds.Nodup → (∀ x ∈ ds, x ∈ xs) → xs.length = ds.length → xs.Nodup
  | [], _, _, _, _ => List.nodup_nil
  | x :: xs, ds, hn, hs, hl => by
    have hl : xs.length + 1 = ds.length := hl
    have out : ¬ ∀ y ∈ ds, y ∈ xs := fun h => by
      have := nodup_le ds xs hn h
      omega
    have hx : x ∈ ds := Classical.byContradiction fun z => out fun y hy => (List.mem_cons.mp (hs y hy)).resolve_left fun e => z (e ▸ hy)
    have hxs : x ∉ xs := fun z => out fun y hy => (List.mem_cons.mp (hs y hy)).elim (fun e => e ▸ z) id
    refine List.nodup_cons.mpr ⟨hxs, nodup_len (ds := ds.erase x) (hn.erase x) (fun y hy => ?_) ?_⟩
    · have h := (List.Nodup.mem_erase_iff hn).mp hy
      exact (List.mem_cons.mp (hs y h.2)).resolve_left h.1
    · rw [List.length_erase_of_mem hx]
      omega
theorem len_nodup {xs ds : List Str} (hn : ds.Nodup) (hm : ∀ x, x ∈ ds ↔ x ∈ xs) : xs.length = ds.length ↔ xs.Nodup :=
  ⟨nodup_len hn fun x hx => (hm x).mp hx, fun h => Nat.le_antisymm (nodup_le xs ds h fun x hx => (hm x).mpr hx) (nodup_le ds xs hn fun x hx => (hm x).mp hx)⟩
def Fits (us : List (Str × UF)) (s : SF) : Prop := (∀ x ∈ s.wished ++ s.up ++ s.later ++ s.back, x ∈ us.map (·.1)) ∧ (s.wished ++ s.later ++ s.back).Nodup ∧ (∀ x ∈ s.wished ++ s.later, ∀ u, fu us x = some u → ∀ o ∈ u.needs, o ∈ s.wished) ∧ (∀ x ∈ s.wished ++ s.later, ∀ o ∈ br us x, o ∉ s.wished ++ s.later ++ s.back) ∧ ¬ Knotted (wt us) (openL s)
open Classical in
def sp_fits (K : PySem.W.Frag) : Sp := fun vs H Q _ => ∃ (p c : Addr) (us : List (Str × UF)) (s : SF), vs = [.ref p, .ref c] ∧ ShelfAt K H p us ∧ Nms us ∧ (∀ p ∈ us, p.2.needs.length ≤ 100) ∧ (∀ w, w ∉ wt us w) ∧ StandAt K H c s ∧ SFew s ∧ s.wished.Nodup ∧
  ∀ H', Same H H' → Q (.bl (decide (Fits us s))) H'
open Classical in
theorem ok_fits (T : Txt K mg) : FnOk P w K mg base CX0 7 (He.fAd K ("fits", none)) T.d_fits ["shelf", "stand"] (sp_fits K) := by
  refine T.F_fits.ok sc_fits (fun vs H Q E h => ?_) (fun cdv A outer s H vs Q E hr h => ?_)
  · obtain ⟨p, c, us, s, rfl, _⟩ := h
    rfl
  · obtain ⟨p, c, us, s, rfl, hS, hN, hF, hself, hC, few, hwn, q⟩ := h
    refine ⟨_, PSs.nox (pss_cons (ps_if (pt_not (pt_val (pe_call (ok_all_there T) (hr.mono (by decide)) (by rfl) T.m_all_there T.F_all_there.kp T.b_all_there .nil pass0 (pa_cons (pv 0) (pa_cons (pv 1) pa_nil)))))
      (pss_one (ps_ret pe_bl))
      pss_nil)
      (pss_cons (ps_set (i := 2) sc_fits.nd rfl (Or.inl rfl) (pe_op op_catA (pe_op op_catA (pe_fld (pv 1) rfl) (pe_fld (pv 1) rfl)) (pe_fld (pv 1) rfl)))
      (pss_one (ps_ret (pe_mid (pe_and (pe_cmpR op_eq (pe_callB (id := "len")  call_len_seq (by rfl) T.n_len (by decide +kernel) (pa_cons (pv 2) pa_nil)) (pe_callB (id := "len")  UP.cr_lenTx (by rfl) T.n_len (by decide +kernel) (pa_cons (pe_callTy (T := "set")  (UP.cr_setTT rfl) (by rfl) T.n_set (by decide +kernel) (pa_cons (pv 2) pa_nil)) pa_nil)) (nomark _)) (pe_and (pe_call (ok_needs_wished T) (hr.mono (by decide)) (by rfl) T.m_needs_wished T.F_needs_wished.kp T.b_needs_wished .nil pass0 (pa_cons (pv 0) (pa_cons (pv 1) pa_nil))) (pe_and (pe_call (ok_none_barred T) (hr.mono (by decide)) (by rfl) T.m_none_barred T.F_none_barred.kp T.b_none_barred .nil pass0 (pa_cons (pv 0) (pa_cons (pv 1) pa_nil))) (pe_one (pe_cmpR op_isN (pe_call (ok_knot_in T) (hr.mono (by decide)) (by rfl) T.m_knot_in T.F_knot_in.kp T.b_knot_in .nil pass0 (pa_cons (pv 0) (pa_cons (pe_call (ok_open_in T) (hr.mono (by decide)) (by rfl) T.m_open_in T.F_open_in.kp T.b_open_in .nil pass0 (pa_cons (pv 1) pa_nil)) pa_nil))) pe_non (nomark _))))))))))), ?_⟩
    obtain ⟨dx, aw, au, al, ab, hc, hw, hu, hl, hb⟩ := id hC
    obtain ⟨f1, f2, f3, f4⟩ := id few
    refine ⟨_, rfl, _, rfl, p, c, us, s, rfl, hS, hN, hC, few, fun H1 s1 => ?_⟩
    refine ⟨_, rfl, ?_⟩
    by_cases c1 : ∀ x ∈ s.wished ++ s.up ++ s.later ++ s.back, x ∈ us.map (·.1)
    · rw [decide_eq_true c1]
      refine iteF ?_
      have hin : ∀ x ∈ s.wished ++ s.later, x ∈ us.map (·.1) := fun x hx => c1 x (by
        simp only [List.mem_append] at hx ⊢
        rcases hx with hx | hx
        · exact .inl (.inl (.inl hx))
        · exact .inl (.inr hx))
      refine ⟨_, rfl, c, _, dx, _, _, rfl, s1 _ _ hc, T.cl_Stand, T.na_Stand_wished, rfl, _, rfl, c, _, dx, _, _, rfl, s1 _ _ hc, T.cl_Stand, T.na_Stand_later, rfl, catA (tup_same s1 hw) (tup_same s1 hl) (by rw [List.length_map, List.length_map]; omega) fun t2 H2 s2 q2 => ?_⟩
      have s02 := s1.trans s2
      refine ⟨_, rfl, c, _, dx, _, _, rfl, s02 _ _ hc, T.cl_Stand, T.na_Stand_back, rfl, catA q2 (tup_same s02 hb) (by rw [List.length_append, List.length_map, List.length_map, List.length_map]; omega) fun t3 H3 s3 q3 => ?_⟩
      have s03 := s02.trans s3
      rw [← List.map_append, ← List.map_append] at q3
      obtain ⟨held, hheld⟩ : ∃ xs, s.wished ++ s.later ++ s.back = xs := ⟨_, rfl⟩
      have hlen : held.length ≤ 120 := by
        rw [← hheld, List.length_append, List.length_append]
        omega
      rw [hheld] at q3
      refine ⟨fun v H' => Same H3 H' ∧ v = .bl (decide (Fits us s)), ?_, ?_⟩
      · refine ⟨_, rfl, t3, _, rfl, .inr q3, _, rfl, t3, held, rfl, q3, by omega, fun p4 ds n4 dn dm => ?_⟩
        generalize hE4 : upd H3 p4 _ = H4
        have w4 := new_at hE4
        have s4 := new_same hE4 n4
        have dl : ds.length ≤ held.length := nodup_le ds held dn fun x hx => (dm x).mp hx
        refine ⟨p4, _, _, rfl, w4, by omega, rfl, _, rfl, ?_⟩
        have s04 := s03.trans s4
        have no : ∀ {H' : Hp}, Same H4 H' → ¬ Fits us s → Same H3 H' ∧ V.bl false = .bl (decide (Fits us s)) := fun e z => ⟨s4.trans e, by rw [decide_eq_false z]⟩
        by_cases c2 : held.Nodup
        · rw [show decide (V.int ((held.map V.str).length : Int) = V.int (ds.length : Int)) = true from decide_eq_true (by rw [List.length_map, (len_nodup dn dm).mpr c2])]
          refine iteT ⟨_, rfl, _, rfl, p, c, us, s, rfl, hS.same s04, hN, hF, hC.same s04, few, hin, fun H5 s5 => ?_⟩
          refine ⟨_, rfl, ?_⟩
          by_cases c3 : ∀ x ∈ s.wished ++ s.later, ∀ u, fu us x = some u → ∀ o ∈ u.needs, o ∈ s.wished
          · rw [decide_eq_true c3]
            have s05 := s04.trans s5
            refine iteT ⟨_, rfl, _, rfl, p, c, us, s, rfl, hS.same s05, hN, hC.same s05, few, hin, fun H6 s6 => ?_⟩
            refine ⟨_, rfl, ?_⟩
            by_cases c4 : ∀ x ∈ s.wished ++ s.later, ∀ o ∈ br us x, o ∉ s.wished ++ s.later ++ s.back
            · rw [decide_eq_true c4]
              have s06 := s05.trans s6
              refine iteT ⟨_, rfl, _, rfl, c, s, rfl, hC.same s06, by omega, fun l7 H7 n7 s7 w7 => ?_⟩
              have s07 := s06.trans s7
              refine ⟨p, l7, us, openL s, rfl, hS.same s07, hN, hself, w7, hwn.filter _, fun x hx => hin x (List.mem_append_left _ (List.mem_filter.mp hx).1), fun v H8 s8 hv => ⟨rfl, (((s4.trans s5).trans s6).trans s7).trans s8, ?_⟩⟩
              rcases hv with ⟨rfl, hk⟩ | ⟨r, D, rfl, _, _, _, hk⟩
              · rw [decide_eq_true (show Fits us s from ⟨c1, hheld ▸ c2, c3, c4, hk⟩)]
                rfl
              · rw [decide_eq_false (show ¬ Fits us s from fun z => z.2.2.2.2 hk)]
                rfl
            · rw [decide_eq_false c4]
              exact iteF (no (s5.trans s6) fun z => c4 z.2.2.2.1)
          · rw [decide_eq_false c3]
            exact iteF (no s5 fun z => c3 z.2.2.1)
        · rw [show decide (V.int ((held.map V.str).length : Int) = V.int (ds.length : Int)) = false from decide_eq_false fun z => c2 ((len_nodup dn dm).mp (by rw [List.length_map] at z; injection z with z; exact Int.ofNat.inj z))]
          exact iteF (no (Same.refl _) fun z => c2 (hheld ▸ z.2.1))
      · rintro v H' ⟨s4, rfl⟩
        exact q H' (s03.trans s4)
    · rw [decide_eq_false c1]
      refine iteT ?_
      have hno : ¬ Fits us s := fun z => c1 z.1
      have := q H1 s1
      rw [decide_eq_false hno] at this
      exact this

-- SPLIT
/-! ### all that follows -/
inductive Reach (us : List (Str × UF)) (ds : List (Str × Str)) : Str × Str → Prop
  | base {d : Str × Str} (h : d ∈ ds) : Reach us ds d
  | step {a b : Str × Str} (h : Reach us ds a) (g : b ∈ ao us a) : Reach us ds b
def WD (us : List (Str × UF)) (d : Str × Str) : Prop := d.1 ∈ us.map (·.1) ∧ (d.2 = onS ∨ d.2 = offS)
theorem ao_wd {us : List (Str × UF)} {a b : Str × Str} (h : b ∈ ao us a) : WD us b := by
  unfold ao at h
  by_cases c : a.2 = offS
  · rw [if_pos c] at h
    obtain ⟨o, ho, rfl⟩ := List.mem_map.mp h
    exact ⟨srt_mem.mp (List.mem_filter.mp ho).1, .inr rfl⟩
  · rw [if_neg c] at h
    rcases List.mem_append.mp (srtP_mem.mp h) with h | h
    · obtain ⟨o, ho, rfl⟩ := List.mem_map.mp h
      refine ⟨?_, .inl rfl⟩
      unfold ned at ho
      split at ho
      · exact of_decide_eq_true (List.mem_filter.mp ho).2
      · cases ho
    · obtain ⟨o, ho, rfl⟩ := List.mem_map.mp h
      exact ⟨srt_mem.mp (List.mem_filter.mp ho).1, .inr rfl⟩
theorem reach_wd {us : List (Str × UF)} {ds : List (Str × Str)} (hd : ∀ d ∈ ds, WD us d) {d : Str × Str} (h : Reach us ds d) : WD us d := by
  cases h with
  | base h => exact hd d h
  | step _ g => exact ao_wd g
theorem wd_few {us : List (Str × UF)} (hN : Nms us) {es : List (Str × Str)} (hn : es.Nodup) (h : ∀ d ∈ es, WD us d) : es.length ≤ 32 := by
  have := nodup_le es ((us.map (·.1)).map (·, onS) ++ (us.map (·.1)).map (·, offS)) hn fun d hd => by
    obtain ⟨h1, h2⟩ := h d hd
    rcases h2 with e | e
    · exact List.mem_append_left _ (List.mem_map.mpr ⟨d.1, h1, by rw [← e]⟩)
    · exact List.mem_append_right _ (List.mem_map.mpr ⟨d.1, h1, by rw [← e]⟩)
  rw [List.length_append, List.length_map, List.length_map (f := (·, offS))] at this
  have := hN.len
  omega
theorem closed_reach {us : List (Str × UF)} {ds es : List (Str × Str)} (h0 : ∀ d ∈ ds, d ∈ es) (hc : ∀ a ∈ es, ∀ b ∈ ao us a, b ∈ es) {d : Str × Str} (h : Reach us ds d) : d ∈ es := by
  induction h with
  | base h => exact h0 _ h
  | step _ g ih => exact hc _ ih _ g

/-! ### the law's own following -/
/-- behind a lock all is as ahead -/
theorem unlock {H H1 H2 H3 : Hp} {d : Addr} {u : HO} {o : Obj} (hd : H d = some u) (e1 : upd H d (.frz o u) = H1) (s : Same H1 H2) (e3 : upd H2 d u = H3) : Same H H3 := fun c x e => by
  by_cases c0 : c = d
  · subst c0
    rw [hd] at e
    cases e
    exact new_at e3
  · exact (mut_keep e3) _ _ (s _ _ ((mut_keep e1) _ _ e c0)) c0
/-- no unit bars itself -/
def NBr (us : List (Str × UF)) : Prop := ∀ p ∈ us, p.1 ∉ p.2.bars
def sp_law_needing (K : PySem.W.Frag) : Sp := fun vs H Q _ => ∃ (d : Addr) (w : Str) (us : List (Str × UF)), vs = [.ref d, .str w] ∧ LF K H d us ∧
  ∀ l H', H l = none → Same H H' → H' l = some (.lst ((nd us w).map V.str)) → Q (.ref l) H'
theorem ok_law_needing (T : Txt K mg) : FnOk P w K mg base CX0 1 (He.fAd K ("_law_needing", none)) T.d_law_needing ["_law_facts_here", "_law_word"] (sp_law_needing K) := by
  refine T.F_law_needing.ok sc_law_needing (fun vs H Q E h => ?_) (fun cdv A outer s H vs Q E hr h => ?_)
  · obtain ⟨d, w, us, rfl, _⟩ := h
    rfl
  · obtain ⟨d, w, us, rfl, hF, q⟩ := h
    refine ⟨_, PSs.nox (pss_one (ps_ret (pe_callB (id := "sorted")  cr_sortedS (by rfl) T.n_sorted (by decide +kernel) (pa_cons (pe_lock (pe_lc (own := [("_law_one", 2)]) (by rfl) sc_law_needing.nd (pi_keys (pv 0)) (blkOk_by (own := [("_law_one", 2)]) (N := N_law_needing) (sc := defScope s_law_needing) (by decide +kernel)) (fun _ _ _ _ _ => (pg_name (i := 2) sc_law_needing.nd rfl (Or.inl rfl))) (fun _ _ _ _ _ => (pts_one (pt_cmpR (r := rIn K false) op_in_seq (pv 1) (pe_ix (r := rIxT K) ix_tup (pe_dget (hu_of hr) (pv 0) (pv 2) (fun _ _ => rfl)) pe_int (fun _ _ => rfl)) (by rfl)))) (fun _ _ _ _ _ => (pv 2)))) pa_nil)))), ?_⟩
    obtain ⟨kvs, hd, ht⟩ := hF.ex
    have hN := hF.nms
    refine ⟨d, _, hd, trivial, fun od => ?_⟩
    generalize hE2 : upd H d _ = H2
    have wd := new_at hE2
    have m2 := mut_keep hE2
    have ht2 := FTab.keep ht m2 (.dK hd)
    refine ⟨_, rfl, d, od, rfl, .inl ⟨kvs, wd, fun D nD => ?_⟩⟩
    have ndD : d ≠ D := ne_some wd nD
    have few := hN.few
    refine lc_it walk_keys (fun i H' => Same H2 H' ∧ H' D = some (.lst ((((us.map (·.1)).take i).filter (needB us w)).map V.str))) ⟨same_upd nD, upd_same⟩ (fun i H' _ h => h.1 _ _ wd) ?_ ?_
    · rintro i x H3 H3' hi ⟨s3, w3⟩ ⟨rfl, k, v, hk, rfl⟩
      obtain ⟨o, uo, rfl, huo, r⟩ := ht2.at hk
      have hoo : (us.map (·.1))[i]? = some o := by rw [List.getElem?_map, huo]; rfl
      have huom := List.mem_of_getElem? huo
      have wb : needB us w o = decide (w ∈ uo.needs) := by
        unfold needB
        rw [fu_some hN.nd huom]
      obtain ⟨v2, hv2, t2, o1, o2, o3, o4, g2, rfl, wo0, wo1, _⟩ := ht2.get hN.nd (o, uo) huom
      refine ⟨rfl, _, rfl, _, rfl, _, rfl, d, .ref t2, rfl, by rw [← hv2]; exact .inl ⟨kvs, Sum.inr o, .inr ⟨od, s3 _ _ wd⟩, rfl, rfl⟩, t2, _, _, _, rfl, rfl, tup_same s3 wo0, at1, o1, _, rfl, .inr (tup_same s3 wo1), rfl, strs_flat _, _, rfl, ?_⟩
      rw [inV_str, take_filter_snoc _ hoo, wb]
      by_cases c : w ∈ uo.needs
      · rw [decide_eq_true c]
        refine iteT ⟨_, rfl, _, w3, ?_, Same.own (q := D) s3 (mut_keep rfl) nD, ?_⟩
        · rw [List.length_map]
          refine Nat.lt_of_le_of_lt (List.length_filter_le _ _) (Nat.lt_of_le_of_lt (List.length_take_le' ..) (small1000 ?_))
          rw [List.length_map]
          omega
        · rw [upd_same, if_pos rfl, List.map_append]
          rfl
      · rw [decide_eq_false c]
        refine iteF ⟨s3, ?_⟩
        rw [if_neg Bool.false_ne_true, List.append_nil]
        exact w3
    rintro H3 ⟨s3, w3⟩
    rw [ht.len, show us.length = (us.map (·.1)).length by rw [List.length_map], List.take_length] at w3
    have wd3 := s3 _ _ wd
    refine ⟨wd3, ?_⟩
    generalize hE4 : upd H3 d _ = H4
    have m4 := mut_keep hE4
    have s14 : Same H H4 := unlock hd hE2 s3 hE4
    have w4 := m4 _ _ w3 ndD.symm
    refine ⟨D, _, rfl, SqL.of w4, ?_, fun ys p hy hs np => ?_⟩
    · refine Nat.lt_of_le_of_lt (List.length_filter_le _ _) ?_
      rw [List.length_map]
      omega
    obtain rfl := srt_of hy hs
    rw [srt_filter]
    exact q p _ (s14.free np) (s14.trans (same_upd np)) upd_same
def sp_law_barred (K : PySem.W.Frag) : Sp := fun vs H Q _ => ∃ (d : Addr) (w : Str) (us : List (Str × UF)), vs = [.ref d, .str w] ∧ LF K H d us ∧ NBr us ∧ w ∈ us.map (·.1) ∧
  ∀ l H', H l = none → Same H H' → H' l = some (.lst ((br us w).map V.str)) → Q (.ref l) H'
theorem ok_law_barred (T : Txt K mg) : FnOk P w K mg base CX0 1 (He.fAd K ("_law_barred", none)) T.d_law_barred ["_law_facts_here", "_law_word"] (sp_law_barred K) := by
  refine T.F_law_barred.ok sc_law_barred (fun vs H Q E h => ?_) (fun cdv A outer s H vs Q E hr h => ?_)
  · obtain ⟨d, w, us, rfl, _⟩ := h
    rfl
  · obtain ⟨d, w, us, rfl, hF, hB, hw, q⟩ := h
    refine ⟨_, PSs.nox (pss_one (ps_ret (pe_callB (id := "sorted")  cr_sortedS (by rfl) T.n_sorted (by decide +kernel) (pa_cons (pe_lock (pe_lc (own := [("_law_one", 2)]) (by rfl) sc_law_barred.nd (pi_keys (pv 0)) (blkOk_by (own := [("_law_one", 2)]) (N := N_law_barred) (sc := defScope s_law_barred) (by decide +kernel)) (fun _ _ _ _ _ => (pg_name (i := 2) sc_law_barred.nd rfl (Or.inl rfl))) (fun _ _ _ _ _ => (pts_one (PW.pt (pw_and (pt_cmpR op_ne (pv 2) (pv 1) (nomark _)) (pw_and1 (PW.pt (pw_or (pt_cmpR (r := rIn K false) op_in_seq (pv 2) (pe_ix (r := rIxT K) ix_tup (pe_dget (hu_of hr) (pv 0) (pv 1) (fun _ _ => rfl)) pe_int (fun _ _ => rfl)) (by rfl)) (pw_or1 (pt_cmpR (r := rIn K false) op_in_seq (pv 1) (pe_ix (r := rIxT K) ix_tup (pe_dget (hu_of hr) (pv 0) (pv 2) (fun _ _ => rfl)) pe_int (fun _ _ => rfl)) (by rfl)))))))))) (fun _ _ _ _ _ => (pv 2)))) pa_nil)))), ?_⟩
    obtain ⟨kvs, hd, ht⟩ := hF.ex
    have hN := hF.nms
    obtain ⟨u, hfu, hu⟩ := fu_of hw hN.nd
    refine ⟨d, _, hd, trivial, fun od => ?_⟩
    generalize hE2 : upd H d _ = H2
    have wd := new_at hE2
    have m2 := mut_keep hE2
    have ht2 := FTab.keep ht m2 (.dK hd)
    refine ⟨_, rfl, d, od, rfl, .inl ⟨kvs, wd, fun D nD => ?_⟩⟩
    have ndD : d ≠ D := ne_some wd nD
    have few := hN.few
    obtain ⟨v1, hv1, t1, q1, q2, q3, q4, g1, rfl, wq0, wq1, wq2, wq3, _⟩ := ht2.get hN.nd (w, u) hu
    refine lc_it walk_keys (fun i H' => Same H2 H' ∧ H' D = some (.lst ((((us.map (·.1)).take i).filter (barB us w)).map V.str))) ⟨same_upd nD, upd_same⟩ (fun i H' _ h => h.1 _ _ wd) ?_ ?_
    · rintro i x H3 H3' hi ⟨s3, w3⟩ ⟨rfl, k, v, hk, rfl⟩
      obtain ⟨o, uo, rfl, huo, r⟩ := ht2.at hk
      have hoo : (us.map (·.1))[i]? = some o := by rw [List.getElem?_map, huo]; rfl
      have huom := List.mem_of_getElem? huo
      have hfo := fu_some hN.nd huom
      have wb : barB us w o = (decide (o ∈ u.bars) || decide (w ∈ uo.bars)) := by
        unfold barB
        rw [hfu, hfo]
      have hll : ((((us.map (·.1)).take i).filter (barB us w)).map V.str).length < sizeLine := by
        rw [List.length_map]
        refine Nat.lt_of_le_of_lt (List.length_filter_le _ _) (Nat.lt_of_le_of_lt (List.length_take_le' ..) (small1000 ?_))
        rw [List.length_map]
        omega
      have yes : barB us w o = true → Same H2 (upd H3' D (.lst (((((us.map (·.1)).take i).filter (barB us w)).map V.str) ++ [.str o]))) ∧ (upd H3' D (.lst (((((us.map (·.1)).take i).filter (barB us w)).map V.str) ++ [.str o]))) D = some (.lst ((((us.map (·.1)).take (i + 1)).filter (barB us w)).map V.str)) := fun c => by
        refine ⟨Same.own (q := D) s3 (mut_keep rfl) nD, ?_⟩
        rw [upd_same, take_filter_snoc _ hoo, if_pos c, List.map_append]
        rfl
      have no : barB us w o = false → Same H2 H3' ∧ H3' D = some (.lst ((((us.map (·.1)).take (i + 1)).filter (barB us w)).map V.str)) := fun c => by
        refine ⟨s3, ?_⟩
        rw [take_filter_snoc _ hoo, if_neg (by rw [c]; exact Bool.false_ne_true), List.append_nil]
        exact w3
      refine ⟨rfl, _, rfl, _, rfl, rfl, _, rfl, ?_⟩
      show if (!decide (V.str o = V.str w)) = true then _ else _
      by_cases c0 : o = w
      · subst c0
        refine neF (no ?_)
        have e : uo = u := Option.some.inj (hfo.symm.trans hfu)
        rw [wb, e, decide_eq_false (hB _ hu)]
        rfl
      rw [decide_eq_false (show ¬ V.str o = V.str w from fun z => c0 (by injection z))]
      refine iteT ?_
      refine ⟨_, rfl, _, rfl, _, rfl, d, .ref t1, rfl, by rw [← hv1]; exact .inl ⟨kvs, Sum.inr w, .inr ⟨od, s3 _ _ wd⟩, rfl, rfl⟩, t1, _, _, _, rfl, rfl, tup_same s3 wq0, at3, q3, _, rfl, .inr (tup_same s3 wq3), rfl, strs_flat _, _, rfl, ?_⟩
      rw [show inV (kV (Sum.inr o)) (u.bars.map V.str) = decide (o ∈ u.bars) from inV_str _ _]
      by_cases c1 : o ∈ u.bars
      · rw [decide_eq_true c1] at wb ⊢
        exact iteT (iteT ⟨_, rfl, _, w3, hll, yes (by rw [wb]; rfl)⟩)
      rw [decide_eq_false c1] at wb ⊢
      obtain ⟨v2, hv2, t2, o1, o2, o3, o4, g2, rfl, wo0, wo1, wo2, wo3, _⟩ := ht2.get hN.nd (o, uo) huom
      refine iteF ⟨_, rfl, _, rfl, _, rfl, d, .ref t2, rfl, by rw [← hv2]; exact .inl ⟨kvs, Sum.inr o, .inr ⟨od, s3 _ _ wd⟩, rfl, rfl⟩, t2, _, _, _, rfl, rfl, tup_same s3 wo0, at3, o3, _, rfl, .inr (tup_same s3 wo3), rfl, strs_flat _, _, rfl, ?_⟩
      rw [inV_str]
      by_cases c3 : w ∈ uo.bars
      · rw [decide_eq_true c3] at wb ⊢
        exact iteT ⟨_, rfl, _, w3, hll, yes (by rw [wb]; rfl)⟩
      · rw [decide_eq_false c3] at wb ⊢
        exact iteF (no (by rw [wb]; rfl))
    rintro H3 ⟨s3, w3⟩
    rw [ht.len, show us.length = (us.map (·.1)).length by rw [List.length_map], List.take_length] at w3
    have wd3 := s3 _ _ wd
    refine ⟨wd3, ?_⟩
    generalize hE4 : upd H3 d _ = H4
    have m4 := mut_keep hE4
    have s14 : Same H H4 := unlock hd hE2 s3 hE4
    have w4 := m4 _ _ w3 ndD.symm
    refine ⟨D, _, rfl, SqL.of w4, ?_, fun ys p hy hs np => ?_⟩
    · refine Nat.lt_of_le_of_lt (List.length_filter_le _ _) ?_
      rw [List.length_map]
      omega
    obtain rfl := srt_of hy hs
    rw [srt_filter]
    exact q p _ (s14.free np) (s14.trans (same_upd np)) upd_same
def nx (us : List (Str × UF)) (d : Str × Str) : List (Str × Str) :=
  if d.2 = offS then (nd us d.1).map (·, offS) else (ned us d.1).map (·, onS) ++ (br us d.1).map (·, offS)
theorem nx_mem {us : List (Str × UF)} {a b : Str × Str} : b ∈ nx us a ↔ b ∈ ao us a := by
  unfold nx ao
  by_cases c : a.2 = offS
  · rw [if_pos c, if_pos c]
  · rw [if_neg c, if_neg c, srtP_mem]
def sp_law_next (K : PySem.W.Frag) : Sp := fun vs H Q _ => ∃ (d t : Addr) (us : List (Str × UF)) (a : Str × Str), vs = [.ref d, .ref t] ∧ LF K H d us ∧ NBr us ∧ SqT K H t [.str a.1, .str a.2] ∧ a.1 ∈ us.map (·.1) ∧
  ∀ l xs H', H l = none → Same H H' → H' l = some (.lst xs) → PrH H' xs (nx us a) → (nx us a).length ≤ 120 → Q (.ref l) H'
theorem ok_law_next (T : Txt K mg) : FnOk P w K mg base CX0 2 (He.fAd K ("_law_next", none)) T.d_law_next ["_law_facts_here", "_law_demand"] (sp_law_next K) := by
  refine T.F_law_next.ok sc_law_next (fun vs H Q E h => ?_) (fun cdv A outer s H vs Q E hr h => ?_)
  · obtain ⟨d, t, us, a, rfl, _⟩ := h
    rfl
  · obtain ⟨d, t, us, a, rfl, hF, hB, ht, ha, q⟩ := h
    refine ⟨_, PSs.nox (pss_cons (ps_asg (pv 1) (pg_tup rfl (pgs_cons (pg_name (i := 2) sc_law_next.nd rfl (Or.inl rfl)) (pgs_cons (pg_name (i := 3) sc_law_next.nd rfl (Or.inl rfl)) pgs_nil))))
      (pss_cons (ps_if (pt_cmpR op_eq (pv 3) pe_str (nomark _))
      (pss_one (ps_ret (pe_lc (own := [("_law_one", 5)]) (by rfl) sc_law_next.nd (pi_list (pe_call (ok_law_needing T) (hr.mono (by decide)) (by rfl) T.m_law_needing T.F_law_needing.kp T.b_law_needing .nil pass0 (pa_cons (pv 0) (pa_cons (pv 2) pa_nil)))) (blkOk_by (own := [("_law_one", 5)]) (N := N_law_next) (sc := defScope s_law_next) (by decide +kernel)) (fun _ _ _ _ _ => (pg_name (i := 5) sc_law_next.nd rfl (Or.inl rfl))) (fun _ _ _ _ _ => pts_nil) (fun _ _ _ _ _ => (pe_tup (pa_cons (pv 5) (pa_cons pe_str pa_nil)))))))
      pss_nil)
      (pss_cons (ps_setLc (i := 4) (own := [("_law_one", 5)]) (by rfl) sc_law_next.nd rfl rfl (sw_true rfl rfl rfl (by decide +kernel)) (pi_tup (pe_ix ix_tup (pe_dget (hu_of hr) (pv 0) (pv 2) (fun _ _ => rfl)) pe_int (fun _ _ => rfl))) (blkOk_by (own := [("_law_one", 5)]) (N := N_law_next) (sc := defScope s_law_next) (by decide +kernel)) (fun _ _ _ _ _ => (pg_name (i := 5) sc_law_next.nd rfl (Or.inl rfl))) (fun _ _ _ _ _ => (pts_one (pt_cmp (pc_din (hu_of hr) (pv 5) (pv 0))))) (fun _ _ _ _ _ => (pe_tup (pa_cons (pv 5) (pa_cons pe_str pa_nil)))))
      (pss_one (ps_ret (pe_op op_cat (pv 4) (pe_lc (own := [("_law_one", 5)]) (by rfl) sc_law_next.nd (pi_list (pe_call (ok_law_barred T) (hr.mono (by decide)) (by rfl) T.m_law_barred T.F_law_barred.kp T.b_law_barred .nil pass0 (pa_cons (pv 0) (pa_cons (pv 2) pa_nil)))) (blkOk_by (own := [("_law_one", 5)]) (N := N_law_next) (sc := defScope s_law_next) (by decide +kernel)) (fun _ _ _ _ _ => (pg_name (i := 5) sc_law_next.nd rfl (Or.inl rfl))) (fun _ _ _ _ _ => pts_nil) (fun _ _ _ _ _ => (pe_tup (pa_cons (pv 5) (pa_cons pe_str pa_nil))))))))))), ?_⟩
    have hN := hF.nms
    refine ⟨_, rfl, t, _, rfl, ht, rfl, _, _, rfl, _, _, rfl, rfl, ?_⟩
    refine ⟨_, rfl, rfl, _, rfl, ?_⟩
    show if decide (V.str a.2 = V.str offS) = true then _ else _
    by_cases c : a.2 = offS
    · rw [show decide (V.str a.2 = V.str offS) = true from decide_eq_true (by rw [c])]
      refine iteT ?_
      refine ⟨_, rfl, _, rfl, d, _, us, rfl, hF, fun l H1 nl s1 wl => ?_⟩
      refine ⟨l, rfl, ⟨_, SqL.of wl⟩, fun D nD => ?_⟩
      refine lc_list (xs := (nd us a.1).map V.str) (fun i H' => Same H1 H' ∧ ∃ xs, H' D = some (.lst xs) ∧ PrH H' xs (((nd us a.1).take i).map (·, offS))) ⟨same_upd nD, [], upd_same, .nil⟩ (fun i H' _ h => SqL.of (h.1 _ _ wl)) ?_ ?_
      · rintro i x H2 hi ⟨s2, xs, w2, p2⟩
        obtain ⟨o, ho, rfl⟩ := map_str_get hi
        refine ⟨rfl, yes_of (iteT ⟨_, rfl, by show 2 ≤ sizeLine; decide, fun t2 n2 => ⟨xs, same_upd n2 _ _ w2, ?_, ?_⟩⟩)⟩
        · rw [p2.len, List.length_map]
          exact Nat.lt_of_le_of_lt (List.length_take_le' ..) (Nat.lt_of_le_of_lt (filt_len hN _) (small1000 (by decide)))
        · rw [take_snoc ho, List.map_append]
          exact pair_put s2 nD w2 p2 n2
      · rintro H2 ⟨s2, xs, w2, p2⟩
        rw [List.length_map, List.take_length] at p2
        have e : nx us a = (nd us a.1).map (·, offS) := by
          unfold nx
          rw [if_pos c]
        refine q D xs H2 (s1.free nD) (s1.trans s2) w2 (by rw [e]; exact p2) ?_
        rw [e, List.length_map]
        exact Nat.le_trans (filt_len hN _) (by decide)
    · rw [show decide (V.str a.2 = V.str offS) = false from decide_eq_false fun z => c (by injection z)]
      refine iteF ?_
      obtain ⟨u, hfu, hu⟩ := fu_of ha hN.nd
      have hned : ned us a.1 = u.needs.filter fun x => decide (x ∈ us.map (·.1)) := by
        unfold ned
        rw [hfu]
      obtain ⟨kvs, hd, htb⟩ := hF.ex
      obtain ⟨v1, hv1, t1, q1, q2, q3, q4, g1, rfl, wq0, wq1, _⟩ := htb.get hN.nd (a.1, u) hu
      have hnl : u.needs.length ≤ 100 := (hF.few _ hu).1
      refine ⟨_, rfl, _, rfl, d, .ref t1, rfl, by rw [← hv1]; exact DGet.k (k := Sum.inr a.1) hd, t1, _, _, _, rfl, rfl, wq0, at1, q1, rfl, ⟨_, wq1⟩, fun D nD => ?_⟩
      refine lc_tup (xs := u.needs.map V.str) (fun i H' => Same H H' ∧ ∃ xs, H' D = some (.lst xs) ∧ PrH H' xs (((u.needs.take i).filter fun x => decide (x ∈ us.map (·.1))).map (·, onS))) ⟨same_upd nD, [], upd_same, .nil⟩ (fun i H' _ h => tup_same h.1 wq1) ?_ ?_
      · rintro i x H2 hi ⟨s2, xs, w2, p2⟩
        obtain ⟨o, ho, rfl⟩ := map_str_get hi
        refine ⟨rfl, _, rfl, _, rfl, d, _, rfl, DGet.k (k := Sum.inr o) (s2 _ _ hd), _, rfl, ?_⟩
        rw [take_filter_snoc _ ho, hN.val htb o]
        by_cases c2 : o ∈ us.map (·.1)
        · rw [decide_eq_true c2]
          refine iteT ⟨_, rfl, by show 2 ≤ sizeLine; decide, fun t2 n2 => ⟨xs, same_upd n2 _ _ w2, ?_, ?_⟩⟩
          · rw [p2.len, List.length_map]
            exact Nat.lt_of_le_of_lt (List.length_filter_le _ _) (Nat.lt_of_le_of_lt (List.length_take_le' ..) (small1000 (by omega)))
          · rw [if_pos rfl, List.map_append]
            exact pair_put s2 nD w2 p2 n2
        · rw [decide_eq_false c2]
          refine iteF ⟨s2, xs, w2, ?_⟩
          rw [if_neg Bool.false_ne_true, List.append_nil]
          exact p2
      rintro H2 ⟨s2, xs, w2, p2⟩
      rw [List.length_map, List.take_length, ← hned] at p2
      refine ⟨_, rfl, _, rfl, _, rfl, d, _, us, rfl, hF.same s2, hB, ha, fun l H3 nl s3 wl => ?_⟩
      refine ⟨l, rfl, ⟨_, SqL.of wl⟩, fun D2 nD2 => ?_⟩
      refine lc_list (xs := (br us a.1).map V.str) (fun i H' => Same H3 H' ∧ ∃ xs, H' D2 = some (.lst xs) ∧ PrH H' xs (((br us a.1).take i).map (·, offS))) ⟨same_upd nD2, [], upd_same, .nil⟩ (fun i H' _ h => SqL.of (h.1 _ _ wl)) ?_ ?_
      · rintro i x H4 hi ⟨s4, ys, w4, p4⟩
        obtain ⟨o, ho, rfl⟩ := map_str_get hi
        refine ⟨rfl, yes_of (iteT ⟨_, rfl, by show 2 ≤ sizeLine; decide, fun t2 n2 => ⟨ys, same_upd n2 _ _ w4, ?_, ?_⟩⟩)⟩
        · rw [p4.len, List.length_map]
          exact Nat.lt_of_le_of_lt (List.length_take_le' ..) (Nat.lt_of_le_of_lt (filt_len hN _) (small1000 (by decide)))
        · rw [take_snoc ho, List.map_append]
          exact pair_put s4 nD2 w4 p4 n2
      rintro H4 ⟨s4, ys, w4, p4⟩
      rw [List.length_map, List.take_length] at p4
      have s34 := s3.trans s4
      have l1 : (ned us a.1).length ≤ 100 := by
        rw [hned]
        exact Nat.le_trans (List.length_filter_le _ _) hnl
      have l2 : (br us a.1).length ≤ 16 := filt_len hN _
      refine ⟨D, D2, xs, ys, rfl, rfl, s34 _ _ w2, w4, by rw [p2.len, p4.len, List.length_map, List.length_map]; exact Nat.le_of_lt (small1000 (by omega)), fun D3 nD3 => ?_⟩
      generalize hE5 : upd H4 D3 _ = H5
      have w5 := new_at hE5
      have s5 := new_same hE5 nD3
      have e : nx us a = (ned us a.1).map (·, onS) ++ (br us a.1).map (·, offS) := by
        unfold nx
        rw [if_neg c]
      refine q D3 _ H5 ((s2.trans s34).free nD3) ((s2.trans s34).trans s5) w5 (by rw [e]; exact ((p2.same s34).same s5).app (p4.same s5)) ?_
      rw [e, List.length_append, List.length_map, List.length_map]
      omega

-- SPLIT
theorem wd_ok {us : List (Str × UF)} (hN : Nms us) {d : Str × Str} (h : WD us d) : Ok2 d := ⟨(hN.nm _ h.1).ok, h.2.elim (fun e => by rw [e]; exact ok_on) fun e => by rw [e]; exact ok_off⟩
theorem prH_last {H : Hp} {xs : List V} {ds : List (Str × Str)} (h : PrH H xs ds) (n : ds ≠ []) : ∃ t d xs' ds', xs = xs' ++ [.ref t] ∧ ds = ds' ++ [d] ∧ H t = some (.tup [.str d.1, .str d.2]) ∧ PrH H xs' ds' := by
  induction h with
  | nil => exact absurd rfl n
  | @cons t d xs ds a p ih =>
    by_cases c : ds = []
    · subst c
      cases p
      exact ⟨t, d, [], [], rfl, rfl, a, .nil⟩
    · obtain ⟨t2, d2, xs', ds', rfl, rfl, a2, p2⟩ := ih c
      exact ⟨t2, d2, .ref t :: xs', d :: ds', rfl, rfl, a2, .cons a p2⟩
theorem small4000 {n : Nat} (h : n ≤ 5000) : n < sizeLine := Nat.lt_of_le_of_lt h (by decide)

def sp_law_followed (K : PySem.W.Frag) : Sp := fun vs H Q _ => ∃ (d l : Addr) (us : List (Str × UF)) (xs : List V) (ds : List (Str × Str)), vs = [.ref d, .ref l] ∧ LF K H d us ∧ NBr us ∧ SqL K H l xs ∧ PrH H xs ds ∧ (∀ d ∈ ds, WD us d) ∧ ds.length ≤ 40 ∧
  ∀ D ys (es : List (Str × Str)) H', H D = none → Same H H' → H' D = some (.lst ys) → PrH H' ys (srtP es) → es.Nodup → (∀ d, d ∈ es ↔ Reach us ds d) → Q (.ref D) H'
theorem ok_law_followed (T : Txt K mg) : FnOk P w K mg base CX0 3 (He.fAd K ("_law_followed", none)) T.d_law_followed ["_law_facts_here", "_law_demands"] (sp_law_followed K) := by
  refine T.F_law_followed.ok sc_law_followed (fun vs H Q E h => ?_) (fun cdv A outer s H vs Q E hr h => ?_)
  · obtain ⟨d, l, us, xs, ds, rfl, _⟩ := h
    rfl
  · obtain ⟨d, l, us, xs, ds, rfl, hF, hB, hl, hP, hW, hdl, q⟩ := h
    refine ⟨_, PSs.nox (pss_cons (ps_set (i := 2) sc_law_followed.nd rfl (Or.inl rfl) pe_dnewT)
      (pss_cons (ps_set (i := 3) sc_law_followed.nd rfl (Or.inl rfl) (pe_callTy (T := "list")  call_list_of (by rfl) T.n_list (by decide +kernel) (pa_cons (pv 1) pa_nil)))
      (pss_cons (ps_while PassesOwn.never (pt_cmpR (op_neD hr.units) (pv 3) (pe_lst pa_nil) (nomark _))
      (pss_cons (ps_set (i := 4) sc_law_followed.nd rfl (Or.inl rfl) (pe_bm0 PySem.F.plainAttrs_list PySem.F.slot_list_pop PySem.F.type_list_pop mt_pop (pv 3)))
      (pss_one (ps_if (pt_cmp (pc_dnotin (hu_of hr) (pv 4) (pv 2)))
      (pss_cons (ps_dput (hu_of hr) (pv 2) (pv 4) pe_bl rfl)
      (pss_one (ps_expr (pe_bm PySem.F.plainAttrs_list PySem.F.slot_list_extend PySem.F.type_list_extend mt_extend (pv 3) (pa_cons (pe_call (ok_law_next T) (hr.mono (by decide)) (by rfl) T.m_law_next T.F_law_next.kp T.b_law_next .nil pass0 (pa_cons (pv 0) (pa_cons (pv 4) pa_nil))) pa_nil)))))
      pss_nil))))
      (pss_one (ps_ret (pe_callB (id := "sorted")  (UD.cr_sortDT rfl hr.units) (by rfl) T.n_sorted (by decide +kernel) (pa_cons (pv 2) pa_nil))))))), ?_⟩
    have hN := hF.nms
    refine fun D nD => ?_
    generalize hE1 : upd H D _ = H1
    have w1 := new_at hE1
    have s1 := new_same hE1 nD
    refine ⟨_, rfl, l, _, rfl, .inl (SqL.ext hl s1), fun Wa nW => ?_⟩
    generalize hE2 : upd H1 Wa _ = H2
    have w2 := new_at hE2
    have s2 := new_same hE2 nW
    have nWH : H Wa = none := s1.free nW
    have nDW : D ≠ Wa := ne_some w1 nW
    refine ⟨fun m σ H' => Same H H' ∧ ∃ (kvs : List (List Key × V)) (es : List (Str × Str)) (wxs : List V) (ws : List (Str × Str)) (y4 : Option V), H' D = some (.dT kvs) ∧ kvs.map (·.1) = es.map key2 ∧ es.Nodup ∧ (∀ d ∈ es, Reach us ds d) ∧ H' Wa = some (.lst wxs) ∧ PrH H' wxs ws ∧ (∀ a ∈ ws, Reach us ds a) ∧ (∀ d ∈ ds, d ∈ es ∨ d ∈ ws) ∧ (∀ a ∈ es, ∀ b ∈ ao us a, b ∈ es ∨ b ∈ ws) ∧ ws.length ≤ 120 * es.length + 40 ∧ m = 200 * (40 - es.length) + ws.length ∧
        σ = [some (.ref d), some (.ref l), some (.ref D), some (.ref Wa), y4],
      ⟨_, s1.trans s2, [], [], xs, ds, none, s2 _ _ w1, rfl, List.nodup_nil, (fun d hd => nomatch hd), w2, (hP.same s1).same s2, fun a ha => .base ha, fun d hd => .inr hd, (fun a ha => nomatch ha), by show ds.length ≤ 120 * 0 + 40; omega, rfl, rfl⟩, ?_⟩
    rintro m σ H3 ⟨s3, kvs, es, wxs, ws, y4, w3, hk, hn, hr, wW, pW, hws, hds, hcl, hwl, rfl, rfl⟩
    have few := wd_few hN hn fun d hd => reach_wd hW (hr d hd)
    -- waiting != []
    refine ⟨_, rfl, by show 0 ≤ sizeLine; decide, fun e ne => ?_⟩
    generalize hE4 : upd H3 e _ = H4
    have w4 := new_at hE4
    have s4 := new_same hE4 ne
    refine neD2 (ds := ws) (es := []) (SqL.of (s4 _ _ wW)) (pW.same s4).prs (SqL.of w4) .nil (fun a ha => wd_ok hN (reach_wd hW (hws a ha))) (fun a ha => nomatch ha) ⟨_, rfl, ?_⟩
    by_cases c : ws = []
    · subst c
      rw [decide_eq_true rfl]
      refine iteF ?_
      refine ⟨_, rfl, D, kvs, es, rfl, .inl (s4 _ _ w3), hk, by omega, fun R ys nR py => ?_⟩
      have s34 := s3.trans s4
      exact q R ys es _ (s34.free nR) (s34.trans (same_upd nR)) upd_same (py.same (same_upd nR)) hn fun d => ⟨hr d, fun h => closed_reach (fun d hd => (hds d hd).resolve_right (fun z => nomatch z)) (fun a ha b hb => (hcl a ha b hb).resolve_right (fun z => nomatch z)) h⟩
    rw [decide_eq_false c]
    refine iteT ⟨_, fun σ' H' h => h, ?_⟩
    obtain ⟨t, cl, wxs', ws', rfl, rfl, ht, pW'⟩ := prH_last pW c
    have hclr : Reach us ds cl := hws cl (List.mem_append_right _ (List.mem_singleton.mpr rfl))
    have hclw := reach_wd hW hclr
    rw [List.length_append] at hwl
    have hwl : ws'.length + 1 ≤ 120 * es.length + 40 := hwl
    have wW4 := s4 _ _ wW
    -- claim = waiting.pop()
    refine ⟨_, rfl, .inl ⟨rfl, _, SqL.of wW4⟩, Wa, _, .ref t, rfl, rfl, wW4, by rw [List.length_append, show wxs'.length + [V.ref t].length - 1 = wxs'.length from rfl, List.getElem?_append_right (Nat.le_refl _), Nat.sub_self]; rfl, ?_⟩
    rw [List.dropLast_concat]
    generalize hE5 : upd H4 Wa _ = H5
    have w5 := new_at hE5
    have m5 := mut_keep hE5
    have nt5 : NotTup H4 Wa := .lst wW4
    have s05 : Same H H5 := Same.own (s3.trans s4) m5 nWH
    have wD5 := m5 _ _ (s4 _ _ w3) nDW
    have ht5 := m5 _ _ (s4 _ _ ht) (nt5.ne (s4 _ _ ht))
    have pW5 := (pW'.same s4).keep m5 nt5
    -- if claim not in found
    refine ⟨_, rfl, _, rfl, D, _, rfl, DGet.t (k := key2 cl) wD5 ht5, _, rfl, ?_⟩
    rw [val2 hk]
    by_cases c2 : cl ∈ es
    · rw [decide_eq_true c2]
      refine iteF ⟨_, ?_, s05, kvs, es, wxs', ws', _, wD5, hk, hn, hr, w5, pW5, fun a ha => hws a (List.mem_append_left _ ha), fun d hd => ?_, fun a ha b hb => ?_, by omega, rfl, rfl⟩
      · rw [List.length_append]
        show _ < 200 * (40 - es.length) + (ws'.length + 1)
        omega
      · rcases hds d hd with z | z
        · exact .inl z
        · rcases List.mem_append.mp z with z | z
          · exact .inr z
          · rw [List.mem_singleton.mp z]
            exact .inl c2
      · rcases hcl a ha b hb with z | z
        · exact .inl z
        · rcases List.mem_append.mp z with z | z
          · exact .inr z
          · rw [List.mem_singleton.mp z]
            exact .inl c2
    rw [decide_eq_false c2]
    refine iteT ?_
    refine ⟨_, rfl, _, rfl, D, _, rfl, DPut.t (k := key2 cl) wD5 ht5 (by rw [len2 hk]; exact small1000 (by omega)), ?_⟩
    generalize hE6 : upd H5 D _ = H6
    have w6 := new_at hE6
    have m6 := mut_keep hE6
    have nt6 : NotTup H5 D := UD.NotTup.dT wD5
    have s06 : Same H H6 := Same.own s05 m6 nD
    have wW6 := m6 _ _ w5 nDW.symm
    have ht6 := m6 _ _ ht5 (nt6.ne ht5)
    -- waiting.extend(next(facts, claim))
    refine ⟨_, rfl, .inl ⟨rfl, _, SqL.of wW6⟩, _, rfl, _, rfl, d, t, us, cl, rfl, hF.same s06, hB, SqT.of ht6, hclw.1, fun L lxs H7 nL s7 wL pL hnl => ?_⟩
    have nWL : Wa ≠ L := ne_some wW6 nL
    have wW7 := s7 _ _ wW6
    refine ⟨Wa, L, _, _, rfl, rfl, wW7, wL, by rw [pW5.len, pL.len]; exact Nat.le_of_lt (small4000 (by omega)), ?_⟩
    generalize hE8 : upd H7 Wa _ = H8
    have w8 := new_at hE8
    have m8 := mut_keep hE8
    have nt8 : NotTup H7 Wa := .lst wW7
    have hn2 := snoc_nodup hn c2
    have few2 := wd_few hN hn2 fun d hd => (List.mem_append.mp hd).elim (fun z => reach_wd hW (hr d z)) fun z => by rw [List.mem_singleton.mp z]; exact hclw
    rw [List.length_append] at few2
    have few2 : es.length + 1 ≤ 32 := few2
    refine ⟨_, ?_, Same.own (s06.trans s7) m8 nWH, _, es ++ [cl], _, ws' ++ nx us cl, _, m8 _ _ (s7 _ _ w6) nDW, put2_new hk c2 _, hn2, fun d hd => ?_, w8, (((pW5.keep m6 nt6).same s7).keep m8 nt8).app (pL.keep m8 nt8), fun a ha => ?_, fun d hd => ?_, fun a ha b hb => ?_, ?_, rfl, rfl⟩
    · rw [List.length_append, List.length_append, List.length_append]
      show 200 * (40 - (es.length + 1)) + (ws'.length + (nx us cl).length) < 200 * (40 - es.length) + (ws'.length + 1)
      omega
    · rcases List.mem_append.mp hd with z | z
      · exact hr d z
      · rw [List.mem_singleton.mp z]
        exact hclr
    · rcases List.mem_append.mp ha with z | z
      · exact hws a (List.mem_append_left _ z)
      · exact .step hclr (nx_mem.mp z)
    · rcases hds d hd with z | z
      · exact .inl (List.mem_append_left _ z)
      · rcases List.mem_append.mp z with z | z
        · exact .inr (List.mem_append_left _ z)
        · exact .inl (List.mem_append_right _ z)
    · rcases List.mem_append.mp ha with z | z
      · rcases hcl a z b hb with y | y
        · exact .inl (List.mem_append_left _ y)
        · rcases List.mem_append.mp y with y | y
          · exact .inr (List.mem_append_left _ y)
          · exact .inl (List.mem_append_right _ y)
      · rw [List.mem_singleton.mp z] at hb
        exact .inr (List.mem_append_right _ (nx_mem.mpr hb))
    · rw [List.length_append, List.length_append]
      show ws'.length + (nx us cl).length ≤ 120 * (es.length + 1) + 40
      omega

-- SPLIT
/-! ### what lacks -/
def lackB (us : List (Str × UF)) (e : Str × Str) : Bool := decide (e.2 = onS) && (match fu us e.1 with
  | some u => u.needs.any fun x => !decide (x ∈ us.map (·.1))
  | none => false)
theorem inV_blF (bs : List Bool) : inV (.bl false) (bs.map V.bl) = bs.any (!·) := by
  unfold inV
  rw [List.any_map]
  congr 1
  funext b
  cases b <;> rfl
def sp_law_lacks (K : PySem.W.Frag) : Sp := fun vs H Q _ => ∃ (d l : Addr) (us : List (Str × UF)) (xs : List V) (ds : List (Str × Str)), vs = [.ref d, .ref l] ∧ LF K H d us ∧ SqL K H l xs ∧ PrH H xs ds ∧ (∀ d ∈ ds, WD us d) ∧ ds.length ≤ 100 ∧
  ∀ H', Same H H' → Q (.bl (ds.any (lackB us))) H'
theorem ok_law_lacks (T : Txt K mg) : FnOk P w K mg base CX0 1 (He.fAd K ("_law_lacks", none)) T.d_law_lacks ["_law_facts_here", "_law_demands"] (sp_law_lacks K) := by
  refine T.F_law_lacks.ok sc_law_lacks (fun vs H Q E h => ?_) (fun cdv A outer s H vs Q E hr h => ?_)
  · obtain ⟨d, l, us, xs, ds, rfl, _⟩ := h
    rfl
  · obtain ⟨d, l, us, xs, ds, rfl, hF, hl, hP, hW, hdl, q⟩ := h
    refine ⟨_, PSs.nox (pss_one (ps_ret (pe_cmpR op_in_seq pe_bl (pe_lc (own := [("_law_word", 2), ("_law_way", 3)]) (g := gTup K 2 (gCons (gName 2) (gCons (gName 3) gNil))) (by rfl) sc_law_lacks.nd (pi_list (pv 1)) (blkOk_by (own := [("_law_word", 2), ("_law_way", 3)]) (N := N_law_lacks) (sc := defScope s_law_lacks) (by decide +kernel)) (fun _ _ _ _ _ => by exact (pg_tup rfl (pgs_cons (pg_name (i := 2) sc_law_lacks.nd rfl (Or.inl rfl)) (pgs_cons (pg_name (i := 3) sc_law_lacks.nd rfl (Or.inl rfl)) pgs_nil)))) (fun _ _ _ _ _ => pts_nil) (fun _ _ _ _ _ => (pe_mid (pe_and (pe_cmpR op_eq (pv 3) pe_str (nomark _)) (pe_one (pe_cmpR (r := rIn K false) op_in_seq pe_bl (pe_lc (own := [("_law_one", 4)]) (by rfl) sc_law_lacks.nd (UP.pi_tupK (K := K) (by rfl) (pe_ix (r := rIxT K) ix_tup (pe_dget (hu_of hr) (pv 0) (pv 2) (fun _ _ => rfl)) pe_int (fun _ _ => rfl))) (blkOk_by (own := [("_law_one", 4)]) (N := N_law_lacks) (sc := _) (by rfl)) (fun _ _ _ _ _ => (pg_name (i := 4) sc_law_lacks.nd rfl (Or.inl rfl))) (fun _ _ _ _ _ => pts_nil) (fun _ _ _ _ _ => (pe_cmp (pc_din (hu_of hr) (pv 4) (pv 0))))) (by rfl))))))) (by rfl)))), ?_⟩
    have hN := hF.nms
    obtain ⟨kvs, hd, htb⟩ := hF.ex
    refine ⟨_, rfl, l, rfl, ⟨_, hl⟩, fun D nD => ?_⟩
    refine lc_list (xs := xs) (fun i H' => Same H H' ∧ H' D = some (.lst (((ds.take i).map (lackB us)).map V.bl))) ⟨same_upd nD, upd_same⟩ (fun i H' _ h => SqL.ext hl h.1) ?_ ?_
    · rintro i x H1 hi ⟨s1, w1⟩
      obtain ⟨t, e, rfl, he, ht⟩ := hP.get hi
      obtain ⟨u, hfu, hu⟩ := fu_of (hW e (List.mem_of_getElem? he)).1 hN.nd
      have hlb : lackB us e = (decide (e.2 = onS) && u.needs.any fun x => !decide (x ∈ us.map (·.1))) := by
        unfold lackB
        rw [hfu]
      refine ⟨t, _, rfl, SqT.of (s1 _ _ ht), rfl, _, _, rfl, _, _, rfl, rfl, rfl, yes_of (iteT ?_)⟩
      refine ⟨fun v H' => Same H1 H' ∧ v = .bl (lackB us e), ?_, ?_⟩
      · refine ⟨_, rfl, rfl, _, rfl, ?_⟩
        show if decide (V.str e.2 = V.str onS) = true then _ else _
        by_cases c : e.2 = onS
        · rw [show decide (V.str e.2 = V.str onS) = true from decide_eq_true (by rw [c])]
          rw [decide_eq_true c, Bool.true_and] at hlb
          obtain ⟨v1, hv1, t1, q1, q2, q3, q4, g1, rfl, wq0, wq1, _⟩ := htb.get hN.nd (e.1, u) hu
          have hnl : u.needs.length ≤ 100 := (hF.few _ hu).1
          have hd1 := s1 _ _ hd
          refine iteT ⟨_, rfl, _, rfl, d, .ref t1, rfl, by rw [← hv1]; exact DGet.k (k := Sum.inr e.1) hd1, t1, _, _, _, rfl, rfl, tup_same s1 wq0, at1, q1, rfl, ⟨_, tup_same s1 wq1⟩, fun D2 nD2 => ?_⟩
          refine lc_tup (xs := u.needs.map V.str) (fun j H' => Same H1 H' ∧ H' D2 = some (.lst (((u.needs.take j).map fun x => decide (x ∈ us.map (·.1))).map V.bl))) ⟨same_upd nD2, upd_same⟩ (fun j H' _ h => tup_same (s1.trans h.1) wq1) ?_ ?_
          · rintro j x H2 hj ⟨s2, w2⟩
            obtain ⟨o, ho, rfl⟩ := map_str_get hj
            refine ⟨rfl, yes_of (iteT ⟨_, rfl, _, rfl, d, _, rfl, DGet.k (k := Sum.inr o) (s2 _ _ hd1), ?_⟩)⟩
            refine ⟨_, w2, ?_, Same.own (q := D2) s2 (mut_keep rfl) nD2, ?_⟩
            · rw [List.length_map, List.length_map]
              exact Nat.lt_of_le_of_lt (List.length_take_le' ..) (small1000 (by omega))
            · rw [upd_same, take_snoc ho, List.map_append, List.map_append, hN.val htb o]
              rfl
          rintro H2 ⟨s2, w2⟩
          rw [List.length_map, List.take_length] at w2
          refine ⟨D2, _, rfl, .inl (SqL.of w2), rfl, bls_flat _, s2, ?_⟩
          show V.bl (inV (.bl false) _) = _
          rw [inV_blF, hlb, List.any_map]
          rfl
        · rw [show decide (V.str e.2 = V.str onS) = false from decide_eq_false fun z => c (by injection z)]
          rw [decide_eq_false c] at hlb
          exact iteF ⟨Same.refl _, by rw [hlb]; rfl⟩
      rintro v H2 ⟨s2, rfl⟩
      refine ⟨_, s2 _ _ w1, ?_, Same.own (q := D) (s1.trans s2) (mut_keep rfl) nD, ?_⟩
      · rw [List.length_map, List.length_map]
        exact Nat.lt_of_le_of_lt (List.length_take_le' ..) (small1000 (by omega))
      · rw [upd_same, take_snoc he, List.map_append, List.map_append]
        rfl
    rintro H1 ⟨s1, w1⟩
    rw [hP.len, List.take_length] at w1
    refine ⟨D, _, rfl, .inl (SqL.of w1), rfl, bls_flat _, ?_⟩
    show Q (.bl (inV (.bl true) _)) H1
    rw [inV_bl, List.any_map]
    exact q H1 s1

-- SPLIT
/-! ### clashes, ways -/
def waysL (ds : List (Str × Str)) (y : Str) : List Str := (ds.filter fun d => decide (d.2 = y)).map (·.1)
theorem waysL_mem {ds : List (Str × Str)} {x y : Str} : x ∈ waysL ds y ↔ (x, y) ∈ ds := by
  unfold waysL
  rw [List.mem_map]
  refine ⟨fun ⟨d, hd, e⟩ => ?_, fun h => ⟨(x, y), List.mem_filter.mpr ⟨h, decide_eq_true rfl⟩, rfl⟩⟩
  obtain ⟨h1, h2⟩ := List.mem_filter.mp hd
  have h2 : d.2 = y := of_decide_eq_true h2
  rw [← e, ← h2]
  exact h1
theorem waysL_nodup {ds : List (Str × Str)} {y : Str} (h : ds.Nodup) : (waysL ds y).Nodup := by
  unfold waysL
  refine List.pairwise_map.mpr (List.Pairwise.imp_of_mem (fun {a b} ha hb ne e => ne ?_) (h.filter _))
  have h1 : a.2 = y := of_decide_eq_true (List.mem_filter.mp ha).2
  have h2 : b.2 = y := of_decide_eq_true (List.mem_filter.mp hb).2
  exact Prod.ext e (h1.trans h2.symm)
def sp_law_ways (K : PySem.W.Frag) : Sp := fun vs H Q _ => ∃ (l : Addr) (y : Str) (xs : List V) (ds : List (Str × Str)), vs = [.ref l, .str y] ∧ SqL K H l xs ∧ PrH H xs ds ∧ ds.length ≤ 100 ∧
  ∀ D H', H D = none → Same H H' → H' D = some (.lst ((waysL ds y).map V.str)) → Q (.ref D) H'
theorem ok_law_ways (T : Txt K mg) : FnOk P w K mg base CX0 1 (He.fAd K ("_law_ways", none)) T.d_law_ways ["_law_demands", "_law_way"] (sp_law_ways K) := by
  refine T.F_law_ways.ok sc_law_ways (fun vs H Q E h => ?_) (fun cdv A outer s H vs Q E hr h => ?_)
  · obtain ⟨l, y, xs, ds, rfl, _⟩ := h
    rfl
  · obtain ⟨l, y, xs, ds, rfl, hl, hP, hdl, q⟩ := h
    refine ⟨_, PSs.nox (pss_one (ps_ret (pe_lc (own := [("_law_word", 2), ("_law_other", 3)]) (g := gTup K 2 (gCons (gName 2) (gCons (gName 3) gNil))) (by rfl) sc_law_ways.nd (pi_list (pv 0)) (blkOk_by (own := [("_law_word", 2), ("_law_other", 3)]) (N := N_law_ways) (sc := defScope s_law_ways) (by decide +kernel)) (fun _ _ _ _ _ => by exact (pg_tup rfl (pgs_cons (pg_name (i := 2) sc_law_ways.nd rfl (Or.inl rfl)) (pgs_cons (pg_name (i := 3) sc_law_ways.nd rfl (Or.inl rfl)) pgs_nil)))) (fun _ _ _ _ _ => (pts_one (pt_cmpR op_eq (pv 3) (pv 1) (nomark _)))) (fun _ _ _ _ _ => (pv 2))))), ?_⟩
    refine ⟨_, rfl, l, rfl, ⟨_, hl⟩, fun D nD => lc_list (K := K) (a := l) (xs := xs) (fun i H' => Same H H' ∧ H' D = some (.lst ((waysL (ds.take i) y).map V.str))) ⟨same_upd nD, upd_same⟩ (fun i H' _ h => SqL.ext hl h.1) ?_ ?_⟩
    · rintro i x H1 hi ⟨s1, w1⟩
      obtain ⟨t, d, rfl, he, ht⟩ := hP.get hi
      refine ⟨t, _, rfl, SqT.of (s1 _ _ ht), rfl, _, _, rfl, _, _, rfl, rfl, rfl, ?_⟩
      refine ⟨_, rfl, _, rfl, rfl, _, rfl, ?_⟩
      rw [take_snoc he]
      unfold waysL at w1 ⊢
      rw [List.filter_append, List.map_append, List.map_append]
      rw [UW.dec_str]
      by_cases c : d.2 = y
      · rw [decide_eq_true c, List.filter_cons_of_pos (p := fun (d : Str × Str) => decide (d.2 = y)) (decide_eq_true c)]
        refine iteT ⟨_, rfl, _, w1, ?_, Same.own (q := D) (H1 := H1) s1 (mut_keep rfl) nD, by rw [upd_same]; rfl⟩
        rw [List.length_map, List.length_map]
        refine Nat.lt_of_le_of_lt (List.length_filter_le _ _) (Nat.lt_of_le_of_lt (List.length_take_le' ..) (small1000 (by omega)))
      · rw [decide_eq_false c, List.filter_cons_of_neg (p := fun (d : Str × Str) => decide (d.2 = y)) (by rw [decide_eq_false c]; exact Bool.false_ne_true), List.filter_nil, List.map_nil, List.map_nil, List.append_nil]
        exact iteF ⟨s1, w1⟩
    · rintro H1 ⟨s1, w1⟩
      rw [hP.len, List.take_length] at w1
      exact q D H1 nD s1 w1
/-- min(xs), xs texts, one at least: one of them -/
def rMinT (K : PySem.W.Frag) : List V → Hp → VK → Prop := fun vs H Q => ∃ (a : Addr) (y : Str) (ys : List Str), vs = [.ref a] ∧ SqL K H a ((y :: ys).map V.str) ∧ ∀ z, Q (.str z) H
theorem cr_minT {X : Cx} (hc : X.calm = true) (hu : X.A.units + 64 < cLine) : CallR X (.builtin "min") (rMinT X.K) := fun pins s σ H vs us Q I r h => by
  obtain ⟨a, y, ys, rfl, sq, q⟩ := h
  obtain ⟨its, rv, li, _⟩ := I.list sq
  cases Vals.ref1 r
  obtain ⟨as, rd⟩ := Dp.readsAll I ((y :: ys).map PyData.str) _ _ (dpAll_strs (K := X.K) (H := H) (y :: ys)) rv
  have all : PySem.W.HoldAll s.heap its.toArray.toList (y :: ys) := ⟨as, rd⟩
  refine PySem.W.min_list_datum (I.ok.hd hc) li.isList all (by show X.A.units + 1 + _ < cLine; have : PySem.W.Datum.depth Str = 0 := rfl; omega) fun i v h' tk at_ _ old => ?_
  obtain ⟨x, hx, rx⟩ := vals_get rv (show its[i]? = some v by rw [← List.getElem?_toArray]; exact at_)
  obtain ⟨z, _, rfl⟩ := map_str_get hx
  obtain ⟨t, rfl⟩ := rx
  exact ⟨.str z, H, I.kept old, ⟨t, rfl⟩, q z⟩
def Clash (ds : List (Str × Str)) : Prop := ∃ x, (x, onS) ∈ ds ∧ (x, offS) ∈ ds
def sp_law_clash (K : PySem.W.Frag) : Sp := fun vs H Q _ => ∃ (l : Addr) (xs : List V) (ds : List (Str × Str)), vs = [.ref l] ∧ SqL K H l xs ∧ PrH H xs ds ∧ (∀ d ∈ ds, Ok2 d) ∧ ds.length ≤ 60 ∧
  ∀ v H', Same H H' → ((v = .non ∧ ¬ Clash ds) ∨ ∃ x, v = .str x ∧ Clash ds) → Q v H'
theorem ok_law_clash (T : Txt K mg) : FnOk P w K mg base CX0 1 (He.fAd K ("_law_clash", none)) T.d_law_clash ["_law_demands"] (sp_law_clash K) := by
  refine T.F_law_clash.ok sc_law_clash (fun vs H Q E h => ?_) (fun cdv A outer s H vs Q E hr h => ?_)
  · obtain ⟨l, xs, ds, rfl, _⟩ := h
    rfl
  · obtain ⟨l, xs, ds, rfl, hl, hP, hok, hdl, q⟩ := h
    refine ⟨_, PSs.nox (pss_cons (ps_setLc (i := 1) (own := [("_law_word", 2), ("_law_way", 3)]) (g := gTup K 2 (gCons (gName 2) (gCons (gName 3) gNil))) (by rfl) sc_law_clash.nd rfl rfl (sw_true rfl rfl rfl (by decide +kernel)) (pi_list (pv 0)) (blkOk_by (own := [("_law_word", 2), ("_law_way", 3)]) (N := N_law_clash) (sc := defScope s_law_clash) (by decide +kernel)) (fun _ _ _ _ _ => by exact (pg_tup rfl (pgs_cons (pg_name (i := 2) sc_law_clash.nd rfl (Or.inl rfl)) (pgs_cons (pg_name (i := 3) sc_law_clash.nd rfl (Or.inl rfl)) pgs_nil)))) (fun _ _ _ _ _ => (pts_one (PW.pt (pw_and (pt_cmpR op_eq (pv 3) pe_str (nomark _)) (pw_and1 (pt_cmpR (r := rInD K) (op_inD (UP.un65 hr)) (pe_tup (pa_cons (pv 2) (pa_cons pe_str pa_nil))) (pv 0) (by rfl))))))) (fun _ _ _ _ _ => (pv 2)))
      (pss_one (ps_ret (pe_mid (pe_ifExp (pt_cmpR (op_neD hr.units) (pv 1) (pe_lst pa_nil) (nomark _)) (pe_callB (id := "min")  (cr_minT rfl hr.units) (by rfl) T.n_min (by decide +kernel) (pa_cons (pv 1) pa_nil)) pe_non))))), ?_⟩
    let bf : Str × Str → Bool := fun d => decide (d.2 = onS ∧ (d.1, offS) ∈ ds)
    refine ⟨_, rfl, l, rfl, ⟨_, hl⟩, fun D nD => lc_list (K := K) (a := l) (xs := xs) (fun i H' => Same H H' ∧ H' D = some (.lst ((((ds.take i).filter bf).map (·.1)).map V.str))) ⟨same_upd nD, upd_same⟩ (fun i H' _ h => SqL.ext hl h.1) ?_ ?_⟩
    · rintro i x H1 hi ⟨s1, w1⟩
      obtain ⟨t, d, rfl, he, ht⟩ := hP.get hi
      have hdm : d ∈ ds := List.mem_of_getElem? he
      refine ⟨t, _, rfl, SqT.of (s1 _ _ ht), rfl, _, _, rfl, _, _, rfl, rfl, rfl, ?_⟩
      rw [take_snoc he, List.filter_append, List.map_append, List.map_append]
      have hlen : (List.map V.str (List.map (·.1) ((ds.take i).filter bf))).length < sizeLine := by
        rw [List.length_map, List.length_map]
        exact Nat.lt_of_le_of_lt (List.length_filter_le _ _) (Nat.lt_of_le_of_lt (List.length_take_le' ..) (small1000 (by omega)))
      have stay : ∀ {H2 : Hp}, Same H1 H2 → bf d = false → Same H H2 ∧ H2 D = some (.lst (((ds.take i).filter bf).map (·.1) |>.map V.str |> (· ++ (([d].filter bf).map (·.1)).map V.str))) := fun {H2} e c => by
        refine ⟨s1.trans e, ?_⟩
        rw [List.filter_cons_of_neg (by rw [c]; exact Bool.false_ne_true), List.filter_nil, List.map_nil, List.map_nil]
        show H2 D = some (.lst (_ ++ []))
        rw [List.append_nil]
        exact e _ _ w1
      refine ⟨_, rfl, rfl, _, rfl, ?_⟩
      rw [UW.dec_str]
      by_cases c : d.2 = onS
      · rw [decide_eq_true c]
        refine iteT ⟨_, rfl, by show 2 ≤ sizeLine; decide, fun t2 n2 => ⟨_, rfl, ?_⟩⟩
        generalize hE2 : upd H1 t2 _ = H2
        have w2 := new_at hE2
        have e2 := new_same hE2 n2
        have s2 := s1.trans e2
        refine inD2 (d := (d.1, offS)) (SqT.of w2) (SqL.ext hl s2) (hP.same s2).prs ⟨(hok d hdm).1, ok_off⟩ hok ⟨_, rfl, ?_⟩
        by_cases c2 : (d.1, offS) ∈ ds
        · rw [decide_eq_true c2]
          have hb : bf d = true := decide_eq_true ⟨c, c2⟩
          refine iteT ⟨_, rfl, _, e2 _ _ w1, hlen, Same.own (q := D) (H1 := H2) s2 (mut_keep rfl) nD, ?_⟩
          rw [upd_same, List.filter_cons_of_pos hb]
          rfl
        · rw [decide_eq_false c2]
          exact iteF (stay e2 (decide_eq_false fun z => c2 z.2))
      · rw [decide_eq_false c]
        exact iteF (stay (Same.refl _) (decide_eq_false fun z => c z.1))
    rintro H1 ⟨s1, w1⟩
    rw [hP.len, List.take_length] at w1
    obtain ⟨both, hboth⟩ : ∃ both, (ds.filter bf).map (·.1) = both := ⟨_, rfl⟩
    rw [hboth] at w1
    have hbm : ∀ x ∈ both, (x, onS) ∈ ds ∧ (x, offS) ∈ ds := fun x hx => by
      rw [← hboth] at hx
      obtain ⟨d, hd, rfl⟩ := List.mem_map.mp hx
      obtain ⟨h1, h2⟩ := List.mem_filter.mp hd
      obtain ⟨h3, h4⟩ := of_decide_eq_true h2
      exact ⟨by rw [← h3]; exact h1, h4⟩
    have hcl : both = [] → ¬ Clash ds := fun e ⟨x, h1, h2⟩ => by
      have : x ∈ both := by
        rw [← hboth]
        exact List.mem_map.mpr ⟨(x, onS), List.mem_filter.mpr ⟨h1, decide_eq_true ⟨rfl, h2⟩⟩, rfl⟩
      rw [e] at this
      cases this
    refine ⟨fun v H' => Same H H' ∧ ((v = .non ∧ ¬ Clash ds) ∨ ∃ x, v = .str x ∧ Clash ds), ?_, fun v H' hv => q v H' hv.1 hv.2⟩
    refine ⟨_, rfl, by show 0 ≤ sizeLine; decide, fun e ne => ?_⟩
    generalize hE2 : upd H1 e _ = H2
    have w2 : H2 e = some (.lst (([] : List Str).map V.str)) := new_at hE2
    have s2 := new_same hE2 ne
    refine neD_strs (SqL.of (s2 _ _ w1)) (SqL.of w2) (fun x hx => (hok _ (hbm x hx).1).1) (fun x hx => nomatch hx) ⟨_, rfl, ?_⟩
    cases both with
    | nil =>
      rw [decide_eq_true rfl]
      exact iteF ⟨s1.trans s2, .inl ⟨rfl, hcl rfl⟩⟩
    | cons y ys =>
      rw [decide_eq_false (List.cons_ne_nil y ys)]
      refine iteT ⟨_, rfl, D, y, ys, rfl, SqL.of (s2 _ _ w1), fun z => ⟨s1.trans s2, .inr ⟨z, rfl, y, hbm y (List.mem_cons_self ..)⟩⟩⟩

-- SPLIT
/-! ### a stand that is drawn fits -/
section
variable {us : List (Str × UF)}
theorem br_mem {u b : Str} : b ∈ br us u ↔ b ∈ us.map (·.1) ∧ barB us u b = true := by
  unfold br
  rw [List.mem_filter, srt_mem]
theorem barB_sym (u b : Str) : barB us u b = barB us b u := by
  unfold barB
  cases fu us u <;> cases fu us b <;> simp only []
  rw [Bool.or_comm]
theorem br_sym {u b : Str} (hu : u ∈ us.map (·.1)) (h : b ∈ br us u) : u ∈ br us b := br_mem.mpr ⟨hu, by rw [barB_sym]; exact (br_mem.mp h).2⟩
theorem nd_mem {v x : Str} : x ∈ nd us v ↔ x ∈ us.map (·.1) ∧ ∃ u, fu us x = some u ∧ v ∈ u.needs := by
  unfold nd
  rw [List.mem_filter, srt_mem]
  refine and_congr_right fun _ => ?_
  unfold needB
  cases e : fu us x with
  | none => exact ⟨fun z => Bool.noConfusion z, fun ⟨u, h, _⟩ => nomatch h⟩
  | some u =>
    refine ⟨fun z => ⟨u, rfl, of_decide_eq_true z⟩, fun ⟨u', h, g⟩ => ?_⟩
    cases h
    exact decide_eq_true g
theorem off_ne : offS ≠ onS := by decide +kernel
theorem ao_on_need {u n : Str} {x : UF} (hx : fu us u = some x) (hn : n ∈ x.needs) (hm : n ∈ us.map (·.1)) : (n, onS) ∈ ao us (u, onS) := by
  unfold ao
  rw [if_neg (fun e => off_ne (show onS = offS from e).symm), srtP_mem]
  refine List.mem_append_left _ (List.mem_map.mpr ⟨n, ?_, rfl⟩)
  unfold ned
  rw [show fu us (u, onS).1 = some x from hx]
  exact List.mem_filter.mpr ⟨hn, decide_eq_true hm⟩
theorem ao_on_bar {u b : Str} (h : b ∈ br us u) : (b, offS) ∈ ao us (u, onS) := by
  unfold ao
  rw [if_neg (fun e => off_ne (show onS = offS from e).symm), srtP_mem]
  exact List.mem_append_right _ (List.mem_map.mpr ⟨b, h, rfl⟩)
theorem ao_off {v x : Str} (h : x ∈ nd us v) : (x, offS) ∈ ao us (v, offS) := by
  unfold ao
  rw [if_pos rfl]
  exact List.mem_map.mpr ⟨x, h, rfl⟩
/-- what follows, as it is told -/
structure Cl (us : List (Str × UF)) (es : List (Str × Str)) : Prop where
  wd : ∀ e ∈ es, WD us e
  cl : ∀ a ∈ es, ∀ b ∈ ao us a, b ∈ es
theorem Cl.up {es : List (Str × Str)} (h : Cl us es) {v x : Str} {u : UF} (hv : (v, offS) ∈ es) (hx : x ∈ us.map (·.1)) (hu : fu us x = some u) (hn : v ∈ u.needs) : (x, offS) ∈ es := h.cl _ hv _ (ao_off (nd_mem.mpr ⟨hx, u, hu, hn⟩))
open Classical in
theorem fits_on {h s o l more risen : List Str} {es : List (Str × Str)} (F : Fits us ⟨h, s, o, l⟩) (C : Cl us es) (hno : ∀ x, (x, onS) ∈ es → ∀ u, fu us x = some u → ∀ n ∈ u.needs, n ∈ us.map (·.1)) (hcl : ¬ Clash es)
    (hm : ∀ x, x ∈ more ↔ x ∈ us.map (·.1) ∧ (x ∈ h ∨ (x, onS) ∈ es) ∧ (x, offS) ∉ es) (hmn : more.Nodup) (hr : ∀ x ∈ risen, x ∈ more) (hk : ¬ Knotted (wt us) (more.filter fun x => decide (x ∉ risen))) :
    Fits us ⟨more, risen, o.filter fun x => decide ((x, onS) ∉ es ∧ (x, offS) ∉ es), l.filter fun x => decide ((x, onS) ∉ es ∧ (x, offS) ∉ es)⟩ := by
  obtain ⟨f1, f2, f3, f4, f5⟩ := F
  have hin : ∀ x, x ∈ h ++ o ++ l → x ∈ us.map (·.1) := fun x hx => f1 x (by
    simp only [List.mem_append] at hx ⊢
    rcases hx with (hx | hx) | hx
    · exact .inl (.inl (.inl hx))
    · exact .inl (.inr hx)
    · exact .inr hx)
  have fo : ∀ {x : Str} {ys : List Str}, x ∈ ys.filter (fun x => decide ((x, onS) ∉ es ∧ (x, offS) ∉ es)) ↔ x ∈ ys ∧ (x, onS) ∉ es ∧ (x, offS) ∉ es := fun {x ys} => by
    rw [List.mem_filter]
    exact and_congr_right fun _ => ⟨fun z => of_decide_eq_true z, fun z => decide_eq_true z⟩
  refine ⟨fun x hx => ?_, ?_, fun x hx u hu n hn => ?_, fun x hx b hb hbm => ?_, hk⟩
  · simp only [List.mem_append] at hx
    rcases hx with ((hx | hx) | hx) | hx
    · exact ((hm x).mp hx).1
    · exact ((hm x).mp (hr x hx)).1
    · exact hin x (List.mem_append_left _ (List.mem_append_right _ (fo.mp hx).1))
    · exact hin x (List.mem_append_right _ (fo.mp hx).1)
  · obtain ⟨n1, n2, n3⟩ := List.nodup_append.mp f2
    obtain ⟨n4, n5, n6⟩ := List.nodup_append.mp n1
    refine List.nodup_append.mpr ⟨List.nodup_append.mpr ⟨hmn, n5.filter _, fun x hx y hy e => ?_⟩, n2.filter _, fun x hx y hy e => ?_⟩
    · subst e
      obtain ⟨hy1, hy2, _⟩ := fo.mp hy
      rcases ((hm x).mp hx).2.1 with z | z
      · exact n6 x z x hy1 rfl
      · exact hy2 z
    · subst e
      obtain ⟨hy1, hy2, _⟩ := fo.mp hy
      rcases List.mem_append.mp hx with z | z
      · rcases ((hm x).mp z).2.1 with z | z
        · exact n3 x (List.mem_append_left _ z) x hy1 rfl
        · exact hy2 z
      · exact n3 x (List.mem_append_right _ (fo.mp z).1) x hy1 rfl
  · have old : x ∈ h ++ o → (x, offS) ∉ es → n ∈ more := fun z z2 => by
      have hnh : n ∈ h := f3 x z u hu n hn
      refine (hm n).mpr ⟨hin n (List.mem_append_left _ (List.mem_append_left _ hnh)), .inl hnh, fun z3 => z2 ?_⟩
      exact C.up z3 (hin x (List.mem_append_left _ z)) hu hn
    rcases List.mem_append.mp hx with z | z
    · obtain ⟨z1, z2, z3⟩ := (hm x).mp z
      rcases z2 with z2 | z2
      · exact old (List.mem_append_left _ z2) z3
      · have hnn := hno x z2 u hu n hn
        have hne : (n, onS) ∈ es := C.cl _ z2 _ (ao_on_need hu hn hnn)
        exact (hm n).mpr ⟨hnn, .inr hne, fun z4 => hcl ⟨n, hne, z4⟩⟩
    · exact old (List.mem_append_right _ (fo.mp z).1) (fo.mp z).2.2
  · have hbn := (br_mem.mp hb).1
    -- b is neither demanded off nor on
    have boff : (b, offS) ∉ es := fun z => by
      simp only [List.mem_append] at hbm
      rcases hbm with (y | y) | y
      · exact ((hm b).mp y).2.2 z
      · exact (fo.mp y).2.2 z
      · exact (fo.mp y).2.2 z
    have xold : x ∈ h ++ o ∧ (x, offS) ∉ es := by
      rcases List.mem_append.mp hx with z | z
      · obtain ⟨_, z2, z3⟩ := (hm x).mp z
        rcases z2 with z2 | z2
        · exact ⟨List.mem_append_left _ z2, z3⟩
        · exact absurd (C.cl _ z2 _ (ao_on_bar hb)) boff
      · exact ⟨List.mem_append_right _ (fo.mp z).1, (fo.mp z).2.2⟩
    have bon : (b, onS) ∉ es := fun z => xold.2 (C.cl _ z _ (ao_on_bar (br_sym (hin x (List.mem_append_left _ xold.1)) hb)))
    refine f4 x xold.1 b hb ?_
    simp only [List.mem_append] at hbm ⊢
    rcases hbm with (y | y) | y
    · exact .inl (.inl (((hm b).mp y).2.1.resolve_right bon))
    · exact .inl (.inr (fo.mp y).1)
    · exact .inr (fo.mp y).1
theorem knot_mono {ns ms : List Str} (h : ∀ n ∈ ns, n ∈ ms) (k : Knotted (wt us) ns) : Knotted (wt us) ms := by
  obtain ⟨S, h1, h2, h3⟩ := k
  exact ⟨S, h1, fun n hn => h n (h2 n hn), h3⟩
theorem fits_fall {h s o l h' o' l' : List Str} {es : List (Str × Str)} {f : Str} {u : UF} (ring : Bool) (F : Fits us ⟨h, s, o, l⟩) (C : Cl us es) (hf : f ∈ h) (hfe : (f, offS) ∈ es) (hfu : fu us f = some u) (hring : ring = true ↔ ∃ n ∈ u.needs, (n, offS) ∈ es)
    (hh : ∀ x, x ∈ h' ↔ x ∈ h ∧ (x, offS) ∉ es) (hhn : h'.Nodup) (ho : ∀ x, x ∈ o' ↔ (x ∈ o ∧ (x, offS) ∉ es) ∨ (ring = false ∧ x = f)) (hon : o'.Nodup)
    (hl : ∀ x, x ∈ l' ↔ x ∈ l ∨ ((x, offS) ∈ es ∧ x ∈ h ++ o ∧ (ring = true ∨ x ≠ f))) (hln : l'.Nodup) : Fits us ⟨h', s, o', l'⟩ := by
  obtain ⟨f1, f2, f3, f4, f5⟩ := F
  obtain ⟨n1, n2, n3⟩ := List.nodup_append.mp f2
  obtain ⟨n4, n5, n6⟩ := List.nodup_append.mp n1
  have hin : ∀ x, x ∈ h ++ o ++ l → x ∈ us.map (·.1) := fun x hx => f1 x (by
    simp only [List.mem_append] at hx ⊢
    rcases hx with (hx | hx) | hx
    · exact .inl (.inl (.inl hx))
    · exact .inl (.inr hx)
    · exact .inr hx)
  have sub : ∀ x, x ∈ h' ++ o' ++ l' → x ∈ h ++ o ++ l := fun x hx => by
    simp only [List.mem_append] at hx ⊢
    rcases hx with (hx | hx) | hx
    · exact .inl (.inl ((hh x).mp hx).1)
    · rcases (ho x).mp hx with z | z
      · exact .inl (.inr z.1)
      · exact .inl (.inl (z.2 ▸ hf))
    · rcases (hl x).mp hx with z | z
      · exact .inr z
      · exact .inl (List.mem_append.mp z.2.1)
  have ho2 : ∀ x, x ∈ h' ++ o' → x ∈ h ++ o := fun x hx => by
    simp only [List.mem_append] at hx ⊢
    rcases hx with hx | hx
    · exact .inl ((hh x).mp hx).1
    · rcases (ho x).mp hx with z | z
      · exact .inr z.1
      · exact .inl (z.2 ▸ hf)
  refine ⟨fun x hx => ?_, ?_, fun x hx v hv n hn => ?_, fun x hx b hb hbm => f4 x (ho2 x hx) b hb (sub b hbm), fun k => f5 (knot_mono (fun n hn => ?_) k)⟩
  · simp only [List.mem_append] at hx
    rcases hx with ((hx | hx) | hx) | hx
    · exact hin x (sub x (List.mem_append_left _ (List.mem_append_left _ hx)))
    · exact f1 x (by simp only [List.mem_append]; exact .inl (.inl (.inr hx)))
    · exact hin x (sub x (List.mem_append_left _ (List.mem_append_right _ hx)))
    · exact hin x (sub x (List.mem_append_right _ hx))
  · refine List.nodup_append.mpr ⟨List.nodup_append.mpr ⟨hhn, hon, fun x hx y hy e => ?_⟩, hln, fun x hx y hy e => ?_⟩
    · subst e
      obtain ⟨h1, h2⟩ := (hh x).mp hx
      rcases (ho x).mp hy with z | z
      · exact n6 x h1 x z.1 rfl
      · exact h2 (z.2 ▸ hfe)
    · subst e
      rcases (hl x).mp hy with z | ⟨z1, z2, z3⟩
      · exact n3 x (ho2 x hx) x z rfl
      · rcases List.mem_append.mp hx with y | y
        · exact ((hh x).mp y).2 z1
        · rcases (ho x).mp y with y | y
          · exact y.2 z1
          · rcases z3 with z3 | z3
            · rw [y.1] at z3
              cases z3
            · exact z3 y.2
  · have key : n ∈ h → (n, offS) ∉ es → n ∈ h' := fun z1 z2 => (hh n).mpr ⟨z1, z2⟩
    have hnh : n ∈ h := f3 x (ho2 x hx) v hv n hn
    have xn := hin x (List.mem_append_left _ (ho2 x hx))
    rcases List.mem_append.mp hx with z | z
    · exact key hnh fun z2 => ((hh x).mp z).2 (C.up z2 xn hv hn)
    · rcases (ho x).mp z with z | z
      · exact key hnh fun z2 => z.2 (C.up z2 xn hv hn)
      · obtain ⟨z1, rfl⟩ := z
        rw [hfu] at hv
        cases hv
        refine key hnh fun z2 => ?_
        rw [hring.mpr ⟨n, hn, z2⟩] at z1
        cases z1
  · obtain ⟨h1, h2⟩ := List.mem_filter.mp hn
    exact List.mem_filter.mpr ⟨((hh n).mp h1).1, h2⟩
theorem fits_stood {h s s' o l : List Str} (F : Fits us ⟨h, s, o, l⟩) (hs : ∀ x, x ∈ s' → x ∈ s) (hh : ∀ x ∈ h, x ∈ s → x ∈ s') : Fits us ⟨h, s', o, l⟩ := by
  obtain ⟨f1, f2, f3, f4, f5⟩ := F
  refine ⟨fun x hx => f1 x ?_, f2, f3, f4, ?_⟩
  · simp only [List.mem_append] at hx ⊢
    rcases hx with ((hx | hx) | hx) | hx
    · exact .inl (.inl (.inl hx))
    · exact .inl (.inl (.inr (hs x hx)))
    · exact .inl (.inr hx)
    · exact .inr hx
  · have e : openL ⟨h, s', o, l⟩ = openL ⟨h, s, o, l⟩ := by
      unfold openL
      refine List.filter_congr fun x hx => decide_eq_decide.mpr ⟨fun z y => z (hh x hx y), fun z y => z (hs x y)⟩
    rw [e]
    exact f5
end

-- SPLIT
/-! ### [x for x in xs if ..], xs a list of texts -/
section
variable {g : TG} {tt : TT} {te : TE} {vs : List Nat} {σ : L2.St} {H1 : Hp} {D a : Addr} {Qd : Hp → Prop} {xs : List Str}
/-- by a test that draws nothing -/
theorem flt (f : Str → Bool) (nD : H1 D = none) (wa : H1 a = some (.lst (xs.map V.str))) (few : xs.length ≤ 900)
    (hs : ∀ (x : Str) (H2 : Hp) (P : Hp → Prop), x ∈ xs → Same H1 H2 → (∀ H3, Same H2 H3 → f x = true → ∃ acc, H3 D = some (.lst acc) ∧ acc.length < sizeLine ∧ P (upd H3 D (.lst (acc ++ [.str x])))) → (∀ H3, Same H2 H3 → f x = false → P H3) →
      g (.str x) (wipe σ vs) H2 fun σ2 H3 => wipe σ2 vs = wipe σ vs ∧ tt σ2 H3 fun b H4 => if b = true then te σ2 H4 fun y H5 => ∃ acc, H5 D = some (.lst acc) ∧ acc.length < sizeLine ∧ P (upd H5 D (.lst (acc ++ [y]))) else P H4)
    (hd : ∀ H2, Same H1 H2 → H2 D = some (.lst ((xs.filter f).map V.str)) → Qd H2) :
    ∃ W : Nat → Nat → Hp → Prop, (∃ m, W 0 m (upd H1 D (.lst []))) ∧ ∀ i m H, W i m H →
      ((Itl K a).stop i H ∧ Qd H) ∨ ((Itl K a).go i H ∧ ∃ Nx : Hp → Prop, (∀ H', Nx H' → ∃ m', m' < m ∧ W (i + 1) m' H') ∧ ∀ x H', (Itl K a).yld i H x H' → g x (wipe σ vs) H' fun σ2 H2 => wipe σ2 vs = wipe σ vs ∧ tt σ2 H2 fun b H3 =>
        if b = true then te σ2 H3 fun y H4 => ∃ acc, H4 D = some (.lst acc) ∧ acc.length < sizeLine ∧ Nx (upd H4 D (.lst (acc ++ [y]))) else Nx H3) := by
  have w := walk_list (K := K) (a := a) (xs := xs.map V.str)
  let Pv : Nat → Hp → Prop := fun i H => Same H1 H ∧ H D = some (.lst (((xs.take i).filter f).map V.str))
  refine ⟨fun i m H => i ≤ (xs.map V.str).length ∧ m = (xs.map V.str).length - i ∧ Pv i H, ⟨_, Nat.zero_le _, rfl, same_upd nD, upd_same⟩, ?_⟩
  rintro i m H ⟨hi, rfl, hp⟩
  have hG : SqL K H a (xs.map V.str) := SqL.of (hp.1 _ _ wa)
  by_cases c : i < (xs.map V.str).length
  · refine .inr ⟨w.goes i H c hG, Pv (i + 1), fun H' h => ⟨_, by omega, by omega, rfl, h⟩, fun v H' y => ?_⟩
    obtain ⟨rfl, hv⟩ := w.yields i H v H' c hG y
    obtain ⟨x, hx, rfl⟩ := map_str_get hv
    have hlen : (((xs.take i).filter f).map V.str).length < sizeLine := by
      rw [List.length_map]
      exact Nat.lt_of_le_of_lt (List.length_filter_le _ _) (Nat.lt_of_le_of_lt (List.length_take_le' ..) (small1000 (by omega)))
    refine hs x _ (Pv (i + 1)) (List.mem_of_getElem? hx) hp.1 (fun H3 s3 hf => ⟨_, s3 _ _ hp.2, hlen, Same.own (q := D) (H1 := H3) (hp.1.trans s3) (mut_keep rfl) nD, ?_⟩) (fun H3 s3 hf => ⟨hp.1.trans s3, ?_⟩)
    · rw [upd_same, take_filter_snoc f hx, if_pos hf, List.map_append]
      rfl
    · rw [take_filter_snoc f hx, if_neg (by rw [hf]; exact Bool.false_ne_true), List.append_nil]
      exact s3 _ _ hp.2
  · obtain rfl : i = (xs.map V.str).length := by omega
    refine .inl ⟨w.stops H hG, hd H hp.1 ?_⟩
    have := hp.2
    rw [List.length_map, List.take_length] at this
    exact this
/-- by a test that may draw once -/
theorem fltB {p : Addr} {n : Nat} (must may : Str → Prop) (B : Bag n H1 p) (nD : H1 D = none) (wa : H1 a = some (.lst (xs.map V.str))) (nap : a ≠ p) (few : xs.length ≤ 900) (hnd : xs.Nodup)
    (hs : ∀ (x : Str) (H2 : Hp) (m : Nat) (P : Hp → Prop), x ∈ xs → Kp p H1 H2 → Bag m H2 p → m ≤ n + xs.length → (∀ H3, Kp p H2 H3 → Bag (m + 1) H3 p → may x → ∃ acc, H3 D = some (.lst acc) ∧ acc.length < sizeLine ∧ P (upd H3 D (.lst (acc ++ [.str x])))) → (∀ H3, Kp p H2 H3 → Bag (m + 1) H3 p → ¬ must x → P H3) →
      g (.str x) (wipe σ vs) H2 fun σ2 H3 => wipe σ2 vs = wipe σ vs ∧ tt σ2 H3 fun b H4 => if b = true then te σ2 H4 fun y H5 => ∃ acc, H5 D = some (.lst acc) ∧ acc.length < sizeLine ∧ P (upd H5 D (.lst (acc ++ [y]))) else P H4)
    (hd : ∀ H2 (ys : List Str), Kp p H1 H2 → Bag (n + xs.length) H2 p → H2 D = some (.lst (ys.map V.str)) → ys.Nodup → (∀ y ∈ ys, y ∈ xs ∧ may y) → (∀ x ∈ xs, must x → x ∈ ys) → Qd H2) :
    ∃ W : Nat → Nat → Hp → Prop, (∃ m, W 0 m (upd H1 D (.lst []))) ∧ ∀ i m H, W i m H →
      ((Itl K a).stop i H ∧ Qd H) ∨ ((Itl K a).go i H ∧ ∃ Nx : Hp → Prop, (∀ H', Nx H' → ∃ m', m' < m ∧ W (i + 1) m' H') ∧ ∀ x H', (Itl K a).yld i H x H' → g x (wipe σ vs) H' fun σ2 H2 => wipe σ2 vs = wipe σ vs ∧ tt σ2 H2 fun b H3 =>
        if b = true then te σ2 H3 fun y H4 => ∃ acc, H4 D = some (.lst acc) ∧ acc.length < sizeLine ∧ Nx (upd H4 D (.lst (acc ++ [y]))) else Nx H3) := by
  have w := walk_list (K := K) (a := a) (xs := xs.map V.str)
  have npD : p ≠ D := B.ne nD
  let Pv : Nat → Hp → Prop := fun i H => Kp p H1 H ∧ Bag (n + i) H p ∧ ∃ ys : List Str, H D = some (.lst (ys.map V.str)) ∧ ys.length ≤ i ∧ ys.Nodup ∧ (∀ y ∈ ys, y ∈ xs.take i ∧ may y) ∧ ∀ x ∈ xs.take i, must x → x ∈ ys
  refine ⟨fun i m H => i ≤ (xs.map V.str).length ∧ m = (xs.map V.str).length - i ∧ Pv i H, ⟨_, Nat.zero_le _, rfl, Kp.of (same_upd nD), B.same (same_upd nD), [], upd_same, Nat.le_refl _, List.nodup_nil, (fun y hy => nomatch hy), (fun y hy => nomatch hy)⟩, ?_⟩
  rintro i m H ⟨hi, rfl, hk, hB, ys, wD, yl, yn, ym, yx⟩
  have hG : SqL K H a (xs.map V.str) := SqL.of (hk _ _ wa nap)
  by_cases c : i < (xs.map V.str).length
  · refine .inr ⟨w.goes i H c hG, Pv (i + 1), fun H' h => ⟨_, by omega, by omega, rfl, h⟩, fun v H' y => ?_⟩
    obtain ⟨rfl, hv⟩ := w.yields i H v H' c hG y
    obtain ⟨x, hx, rfl⟩ := map_str_get hv
    rw [List.length_map] at c
    have hxt : x ∉ xs.take i := fun z => by
      obtain ⟨j, hj⟩ := List.mem_iff_getElem?.mp z
      rw [List.getElem?_take] at hj
      split at hj
      · rename_i hji
        have := (List.getElem?_inj (by omega) hnd).mp (hj.trans hx.symm)
        omega
      · cases hj
    refine hs x _ (n + i) (Pv (i + 1)) (List.mem_of_getElem? hx) hk hB (by omega) (fun H3 k3 B3 hm => ⟨_, k3 _ _ wD npD.symm, by rw [List.length_map]; exact small1000 (by omega), ?_⟩) (fun H3 k3 B3 hm => ?_)
    · refine ⟨(hk.trans k3).own (mut_keep rfl) nD, B3.keep (mut_keep rfl) npD, ys ++ [x], by rw [upd_same, List.map_append]; rfl, by rw [List.length_append]; show ys.length + 1 ≤ i + 1; omega, snoc_nodup yn fun z => hxt (ym x z).1, fun z hz => ?_, fun z hz hmz => ?_⟩
      · rw [take_snoc hx, List.mem_append]
        rcases List.mem_append.mp hz with hz | hz
        · exact ⟨.inl (ym z hz).1, (ym z hz).2⟩
        · rw [List.mem_singleton.mp hz]
          exact ⟨.inr (List.mem_singleton.mpr rfl), hm⟩
      · rw [take_snoc hx] at hz
        rcases List.mem_append.mp hz with hz | hz
        · exact List.mem_append_left _ (yx z hz hmz)
        · exact List.mem_append_right _ hz
    · refine ⟨hk.trans k3, B3, ys, k3 _ _ wD npD.symm, by omega, yn, fun z hz => ⟨by rw [take_snoc hx]; exact List.mem_append_left _ (ym z hz).1, (ym z hz).2⟩, fun z hz hmz => ?_⟩
      rw [take_snoc hx] at hz
      rcases List.mem_append.mp hz with hz | hz
      · exact yx z hz hmz
      · rw [List.mem_singleton.mp hz] at hmz
        exact absurd hmz hm
  · obtain rfl : i = (xs.map V.str).length := by omega
    rw [List.length_map] at hB ym yx
    rw [List.take_length] at ym yx
    exact .inl ⟨w.stops H hG, hd H ys hk hB wD yn ym yx⟩
end

-- SPLIT
theorem eqD_strsL {H : Hp} {a b : Addr} {xs ys : List Str} {Q : VK} (h1 : SqL K H a (xs.map V.str)) (h2 : SqL K H b (ys.map V.str)) (hx : ∀ x ∈ xs, PyData.strOk x = true) (hy : ∀ y ∈ ys, PyData.strOk y = true) (q : Q (.bl (decide (xs = ys))) H) : rEqD K (.ref a) (.ref b) H Q := by
  refine ⟨_, _, .lst h1 (dpAll_strs xs), .lst h2 (dpAll_strs ys), shaped_strs hx, shaped_strs hy, ?_⟩
  simp only [PyData.eqv]
  rw [eqvAll_strs xs ys]
  exact q
theorem lack_none {us : List (Str × UF)} {es : List (Str × Str)} (h : es.any (lackB us) = false) {x : Str} (hx : (x, onS) ∈ es) {u : UF} (hu : fu us x = some u) {n : Str} (hn : n ∈ u.needs) : n ∈ us.map (·.1) := by
  rw [List.any_eq_false] at h
  have g := h _ hx
  unfold lackB at g
  rw [show fu us (x, onS).1 = some u from hu, decide_eq_true (show (x, onS).2 = onS from rfl), Bool.true_and] at g
  refine Classical.byContradiction fun c => g (List.any_eq_true.mpr ⟨n, hn, ?_⟩)
  rw [decide_eq_false c]
  rfl
def SAt (H : Hp) (a : Addr) (xs : List Str) : Prop := H a = some (.lst (xs.map V.str))
def sp_law_stand_drawn (K : PySem.W.Frag) : Sp := fun vs H Q _ => ∃ (p d : Addr) (n : Nat) (us : List (Str × UF)), vs = [.ref p, .ref d] ∧ Bag n H p ∧ n < 600000000 ∧ LF K H d us ∧ NBr us ∧ 0 < us.length ∧
  ∀ (t a1 a2 a3 a4 : Addr) (s : SF) H', Bag (n + 800) H' p → Kp p H H' → LF K H' d us → H t = none → H' t = some (.tup [.ref a1, .ref a2, .ref a3, .ref a4]) → SAt H' a1 s.wished → SAt H' a2 s.up → SAt H' a3 s.later → SAt H' a4 s.back → a1 ≠ p → a2 ≠ p → a3 ≠ p → a4 ≠ p → Fits us s → s.up.Nodup → Q (.ref t) H'
theorem ok_law_stand_drawn (T : Txt K mg) : FnOk P w K mg base CX0 9 (He.fAd K ("_law_stand_drawn", none)) T.d_law_stand_drawn ["_law_bag_here", "_law_facts_here"] (sp_law_stand_drawn K) := by
  refine T.F_law_stand_drawn.ok sc_law_stand_drawn (fun vs H Q E h => ?_) (fun cdv A outer s H vs Q E hr h => ?_)
  · obtain ⟨p, d, n, us, rfl, _⟩ := h
    rfl
  · obtain ⟨p, d, n, us, rfl, B, hn, hF, hB, hu0, q⟩ := h
    refine ⟨_, PSs.nox (pss_cons (ps_asg (pe_tup (pa_cons (pe_lst pa_nil) (pa_cons (pe_lst pa_nil) (pa_cons (pe_lst pa_nil) (pa_cons (pe_lst pa_nil) pa_nil))))) (pg_tup rfl (pgs_cons (pg_name (i := 2) sc_law_stand_drawn.nd rfl (Or.inr rfl)) (pgs_cons (pg_name (i := 3) sc_law_stand_drawn.nd rfl (Or.inr rfl)) (pgs_cons (pg_name (i := 4) sc_law_stand_drawn.nd rfl (Or.inr rfl)) (pgs_cons (pg_name (i := 5) sc_law_stand_drawn.nd rfl (Or.inr rfl)) pgs_nil))))))
      (pss_cons (ps_set (i := 6) sc_law_stand_drawn.nd rfl (Or.inl rfl) (pe_callB (id := "sorted")  (call_sortedD rfl) (by rfl) T.n_sorted (by decide +kernel) (pa_cons (pv 1) pa_nil)))
      (pss_cons (ps_for PassesOwn.never rfl (pi_range1 (by rfl) T.n_range (pa_cons (pe_call (ok_law_take T) (hr.mono (by decide)) (by rfl) T.m_law_take T.F_law_take.kp T.b_law_take .nil pass0 (pa_cons (pv 0) (pa_cons pe_int pa_nil))) pa_nil)) (pg_name (i := 7) sc_law_stand_drawn.nd rfl (Or.inl rfl))
      (pss_cons (ps_set (i := 8) sc_law_stand_drawn.nd rfl (Or.inl rfl) (pe_ix ix_list (pv 6) (pe_call (ok_law_take T) (hr.mono (by decide)) (by rfl) T.m_law_take T.F_law_take.kp T.b_law_take .nil pass0 (pa_cons (pv 0) (pa_cons (pe_callB (id := "len")  call_len_seq (by rfl) T.n_len (by decide +kernel) (pa_cons (pv 6) pa_nil)) pa_nil))) (fun _ _ => rfl)))
      (pss_cons (ps_set (i := 9) sc_law_stand_drawn.nd rfl (Or.inl rfl) (pe_call (ok_law_followed T) (hr.mono (by decide)) (by rfl) T.m_law_followed T.F_law_followed.kp T.b_law_followed .nil pass0 (pa_cons (pv 1) (pa_cons (pe_lst (pa_cons (pe_tup (pa_cons (pv 8) (pa_cons pe_str pa_nil))) pa_nil)) pa_nil))))
      (pss_cons (ps_asg (pe_tup (pa_cons (pe_call (ok_law_ways T) (hr.mono (by decide)) (by rfl) T.m_law_ways T.F_law_ways.kp T.b_law_ways .nil pass0 (pa_cons (pv 9) (pa_cons pe_str pa_nil))) (pa_cons (pe_call (ok_law_ways T) (hr.mono (by decide)) (by rfl) T.m_law_ways T.F_law_ways.kp T.b_law_ways .nil pass0 (pa_cons (pv 9) (pa_cons pe_str pa_nil))) pa_nil))) (pg_tup rfl (pgs_cons (pg_name (i := 10) sc_law_stand_drawn.nd rfl (Or.inr rfl)) (pgs_cons (pg_name (i := 11) sc_law_stand_drawn.nd rfl (Or.inr rfl)) pgs_nil))))
      (pss_cons (ps_setLc (i := 12) (own := [("_law_one", 19)]) (by rfl) sc_law_stand_drawn.nd rfl rfl (sw_true rfl rfl rfl (by decide +kernel)) (pi_list (pv 6)) (blkOk_by (own := [("_law_one", 19)]) (N := N_law_stand_drawn) (sc := defScope s_law_stand_drawn) (by decide +kernel)) (fun _ _ _ _ _ => (pg_name (i := 19) sc_law_stand_drawn.nd rfl (Or.inl rfl))) (fun _ _ _ _ _ => (pts_one (PW.pt (pw_and (PW.pt (pw_or (pt_cmpR (r := rIn K false) op_in_seq (pv 19) (pv 2) (by rfl)) (pw_or1 (pt_cmpR (r := rIn K false) op_in_seq (pv 19) (pv 10) (by rfl))))) (pw_and1 (pt_cmpR (r := rIn K true) op_notIn_seq (pv 19) (pv 11) (by rfl))))))) (fun _ _ _ _ _ => (pv 19)))
      (pss_cons (ps_set (i := 13) sc_law_stand_drawn.nd rfl (Or.inr rfl) (pe_lc (own := [("_law_one", 19)]) (by rfl) sc_law_stand_drawn.nd (pi_list (pv 12)) (blkOk_by (own := [("_law_one", 19)]) (N := N_law_stand_drawn) (sc := defScope s_law_stand_drawn) (by decide +kernel)) (fun _ _ _ _ _ => (pg_name (i := 19) sc_law_stand_drawn.nd rfl (Or.inl rfl))) (fun _ _ _ _ _ => (pts_one (PW.pt (pw_or (pt_cmpR (r := rIn K false) op_in_seq (pv 19) (pv 3) (by rfl)) (pw_or1 (pt_cmpR op_gt (pe_call (ok_law_take T) (hr.mono (by decide)) (by rfl) T.m_law_take T.F_law_take.kp T.b_law_take .nil pass0 (pa_cons (pv 0) (pa_cons pe_int pa_nil))) pe_int (nomark _))))))) (fun _ _ _ _ _ => (pv 19))))
      (pss_cons (ps_setLc (i := 14) (own := [("_law_one", 19)]) (by rfl) sc_law_stand_drawn.nd rfl rfl (sw_true rfl rfl rfl (by decide +kernel)) (pi_list (pv 12)) (blkOk_by (own := [("_law_one", 19)]) (N := N_law_stand_drawn) (sc := defScope s_law_stand_drawn) (by decide +kernel)) (fun _ _ _ _ _ => (pg_name (i := 19) sc_law_stand_drawn.nd rfl (Or.inl rfl))) (fun _ _ _ _ _ => (pts_one (pt_cmpR (r := rIn K true) op_notIn_seq (pv 19) (pv 13) (by rfl)))) (fun _ _ _ _ _ => (pv 19)))
      (pss_mid (ps_if (pt_mid (PW.pt (pw_and (pt_not (pt_val (pe_call (ok_law_lacks T) (hr.mono (by decide)) (by rfl) T.m_law_lacks T.F_law_lacks.kp T.b_law_lacks .nil pass0 (pa_cons (pv 1) (pa_cons (pv 9) pa_nil))))) (pw_and (pt_cmpR op_isN (pe_call (ok_law_clash T) (hr.mono (by decide)) (by rfl) T.m_law_clash T.F_law_clash.kp T.b_law_clash .nil pass0 (pa_cons (pv 9) pa_nil)) pe_non (nomark _)) (pw_and1 (pt_cmpR (op_eqD hr.units) (pe_call (ok_law_knotted T) (hr.mono (by decide)) (by rfl) T.m_law_knotted T.F_law_knotted.kp T.b_law_knotted .nil pass0 (pa_cons (pv 1) (pa_cons (pv 14) pa_nil))) (pe_lst pa_nil) (nomark _)))))))
      (pss_cons (ps_asg (pe_tup (pa_cons (pv 12) (pa_cons (pv 13) pa_nil))) (pg_tup rfl (pgs_cons (pg_name (i := 2) sc_law_stand_drawn.nd rfl (Or.inr rfl)) (pgs_cons (pg_name (i := 3) sc_law_stand_drawn.nd rfl (Or.inr rfl)) pgs_nil))))
      (pss_cons (ps_set (i := 4) sc_law_stand_drawn.nd rfl (Or.inr rfl) (pe_lc (own := [("_law_one", 19)]) (by rfl) sc_law_stand_drawn.nd (pi_list (pv 4)) (blkOk_by (own := [("_law_one", 19)]) (N := N_law_stand_drawn) (sc := defScope s_law_stand_drawn) (by decide +kernel)) (fun _ _ _ _ _ => (pg_name (i := 19) sc_law_stand_drawn.nd rfl (Or.inl rfl))) (fun _ _ _ _ _ => (pts_one (pt_cmpR (r := rIn K true) op_notIn_seq (pv 19) (pe_op op_cat (pv 10) (pv 11)) (by rfl)))) (fun _ _ _ _ _ => (pv 19))))
      (pss_one (ps_set (i := 5) sc_law_stand_drawn.nd rfl (Or.inr rfl) (pe_lc (own := [("_law_one", 19)]) (by rfl) sc_law_stand_drawn.nd (pi_list (pv 5)) (blkOk_by (own := [("_law_one", 19)]) (N := N_law_stand_drawn) (sc := defScope s_law_stand_drawn) (by decide +kernel)) (fun _ _ _ _ _ => (pg_name (i := 19) sc_law_stand_drawn.nd rfl (Or.inl rfl))) (fun _ _ _ _ _ => (pts_one (pt_cmpR (r := rIn K true) op_notIn_seq (pv 19) (pe_op op_cat (pv 10) (pv 11)) (by rfl)))) (fun _ _ _ _ _ => (pv 19)))))))
      pss_nil)
      (pss_one (ps_if (pt_mid (PW.pt (pw_and (pt_cmpR (op_neD hr.units) (pv 2) (pe_lst pa_nil) (nomark _)) (pw_and1 (pt_cmpR op_eq (pe_call (ok_law_take T) (hr.mono (by decide)) (by rfl) T.m_law_take T.F_law_take.kp T.b_law_take .nil pass0 (pa_cons (pv 0) (pa_cons pe_int pa_nil))) pe_int (nomark _))))))
      (pss_cons (ps_set (i := 15) sc_law_stand_drawn.nd rfl (Or.inr rfl) (pe_ix ix_list (pv 2) (pe_call (ok_law_take T) (hr.mono (by decide)) (by rfl) T.m_law_take T.F_law_take.kp T.b_law_take .nil pass0 (pa_cons (pv 0) (pa_cons (pe_callB (id := "len")  call_len_seq (by rfl) T.n_len (by decide +kernel) (pa_cons (pv 2) pa_nil)) pa_nil))) (fun _ _ => rfl)))
      (pss_cons (ps_set (i := 16) sc_law_stand_drawn.nd rfl (Or.inr rfl) (pe_call (ok_law_ways T) (hr.mono (by decide)) (by rfl) T.m_law_ways T.F_law_ways.kp T.b_law_ways .nil pass0 (pa_cons (pe_call (ok_law_followed T) (hr.mono (by decide)) (by rfl) T.m_law_followed T.F_law_followed.kp T.b_law_followed .nil pass0 (pa_cons (pv 1) (pa_cons (pe_lst (pa_cons (pe_tup (pa_cons (pv 15) (pa_cons pe_str pa_nil))) pa_nil)) pa_nil))) (pa_cons pe_str pa_nil))))
      (pss_cons (ps_set (i := 17) sc_law_stand_drawn.nd rfl (Or.inr rfl) (pe_cmpR op_in_seq pe_bl (pe_lc (own := [("_law_one", 19)]) (by rfl) sc_law_stand_drawn.nd (pi_tup (pe_ix ix_tup (pe_dget (hu_of hr) (pv 1) (pv 15) (fun _ _ => rfl)) pe_int (fun _ _ => rfl))) (blkOk_by (own := [("_law_one", 19)]) (N := N_law_stand_drawn) (sc := defScope s_law_stand_drawn) (by decide +kernel)) (fun _ _ _ _ _ => (pg_name (i := 19) sc_law_stand_drawn.nd rfl (Or.inl rfl))) (fun _ _ _ _ _ => pts_nil) (fun _ _ _ _ _ => (pe_cmpR (r := rIn K false) op_in_seq (pv 19) (pv 16) (by rfl)))) (by rfl)))
      (pss_cons (ps_setLc (i := 18) (own := [("_law_one", 19)]) (by rfl) sc_law_stand_drawn.nd rfl rfl (sw_true rfl rfl rfl (by decide +kernel)) (pi_list (pv 16)) (blkOk_by (own := [("_law_one", 19)]) (N := N_law_stand_drawn) (sc := defScope s_law_stand_drawn) (by decide +kernel)) (fun _ _ _ _ _ => (pg_name (i := 19) sc_law_stand_drawn.nd rfl (Or.inl rfl))) (fun _ _ _ _ _ => (pts_one (PW.pt (pw_and (pt_cmpR (r := rIn K false) op_in_seq (pv 19) (pe_op op_cat (pv 2) (pv 4)) (by rfl)) (pw_and1 (PW.pt (pw_or (pt_val (pv 17)) (pw_or1 (pt_cmpR op_ne (pv 19) (pv 15) (nomark _)))))))))) (fun _ _ _ _ _ => (pv 19)))
      (pss_cons (ps_set (i := 5) sc_law_stand_drawn.nd rfl (Or.inr rfl) (pe_callB (id := "sorted")  cr_sortedS (by rfl) T.n_sorted (by decide +kernel) (pa_cons (pe_op op_cat (pv 5) (pe_lc (own := [("_law_one", 19)]) (by rfl) sc_law_stand_drawn.nd (pi_list (pv 18)) (blkOk_by (own := [("_law_one", 19)]) (N := N_law_stand_drawn) (sc := defScope s_law_stand_drawn) (by decide +kernel)) (fun _ _ _ _ _ => (pg_name (i := 19) sc_law_stand_drawn.nd rfl (Or.inl rfl))) (fun _ _ _ _ _ => (pts_one (pt_cmpR (r := rIn K true) op_notIn_seq (pv 19) (pv 5) (by rfl)))) (fun _ _ _ _ _ => (pv 19)))) pa_nil)))
      (pss_cons (ps_set (i := 4) sc_law_stand_drawn.nd rfl (Or.inr rfl) (pe_callB (id := "sorted")  cr_sortedS (by rfl) T.n_sorted (by decide +kernel) (pa_cons (pe_op op_cat (pe_lc (own := [("_law_one", 19)]) (by rfl) sc_law_stand_drawn.nd (pi_list (pv 4)) (blkOk_by (own := [("_law_one", 19)]) (N := N_law_stand_drawn) (sc := defScope s_law_stand_drawn) (by decide +kernel)) (fun _ _ _ _ _ => (pg_name (i := 19) sc_law_stand_drawn.nd rfl (Or.inl rfl))) (fun _ _ _ _ _ => (pts_one (pt_cmpR (r := rIn K true) op_notIn_seq (pv 19) (pv 16) (by rfl)))) (fun _ _ _ _ _ => (pv 19))) (pe_slice sl_list (pe_lst (pa_cons (pv 15) pa_nil)) po_none (po_some (pe_callTy (T := "int")  call_int1 (by rfl) T.n_int (by decide +kernel) (pa_cons (pe_not (pv 17)) pa_nil))))) pa_nil)))
      (pss_one (ps_set (i := 2) sc_law_stand_drawn.nd rfl (Or.inr rfl) (pe_lc (own := [("_law_one", 19)]) (by rfl) sc_law_stand_drawn.nd (pi_list (pv 2)) (blkOk_by (own := [("_law_one", 19)]) (N := N_law_stand_drawn) (sc := defScope s_law_stand_drawn) (by decide +kernel)) (fun _ _ _ _ _ => (pg_name (i := 19) sc_law_stand_drawn.nd rfl (Or.inl rfl))) (fun _ _ _ _ _ => (pts_one (pt_cmpR (r := rIn K true) op_notIn_seq (pv 19) (pv 16) (by rfl)))) (fun _ _ _ _ _ => (pv 19)))))))))))
      pss_nil))))))))))
      (pss_cons (ps_set (i := 3) sc_law_stand_drawn.nd rfl (Or.inr rfl) (pe_lc (own := [("_law_one", 19)]) (by rfl) sc_law_stand_drawn.nd (pi_list (pv 6)) (blkOk_by (own := [("_law_one", 19)]) (N := N_law_stand_drawn) (sc := defScope s_law_stand_drawn) (by decide +kernel)) (fun _ _ _ _ _ => (pg_name (i := 19) sc_law_stand_drawn.nd rfl (Or.inl rfl))) (fun _ _ _ _ _ => (pts_one (PW.pt (pw_and (pt_cmpR (r := rIn K false) op_in_seq (pv 19) (pv 3) (by rfl)) (pw_and1 (PW.pt (pw_or (pt_cmpR (r := rIn K false) op_in_seq (pv 19) (pv 2) (by rfl)) (pw_or1 (pt_cmpR op_eq (pe_call (ok_law_take T) (hr.mono (by decide)) (by rfl) T.m_law_take T.F_law_take.kp T.b_law_take .nil pass0 (pa_cons (pv 0) (pa_cons pe_int pa_nil))) pe_int (nomark _)))))))))) (fun _ _ _ _ _ => (pv 19))))
      (pss_one (ps_ret (pe_tup (pa_cons (pv 2) (pa_cons (pv 3) (pa_cons (pv 4) (pa_cons (pv 5) pa_nil))))))))))), ?_⟩
    have hN := hF.nms
    have hul := hN.len
    rw [List.length_map] at hul
    -- hoped, stood, owed, lost = [], [], [], []
    refine ⟨by show 0 ≤ sizeLine; decide, fun a1 n1 => ?_⟩
    generalize hE1 : upd H a1 _ = H1
    have w1 : SAt H1 a1 [] := new_at hE1
    have s1 := new_same hE1 n1
    refine ⟨by show 0 ≤ sizeLine; decide, fun a2 n2 => ?_⟩
    generalize hE2 : upd H1 a2 _ = H2
    have w2 : SAt H2 a2 [] := new_at hE2
    have s2 := new_same hE2 n2
    refine ⟨by show 0 ≤ sizeLine; decide, fun a3 n3 => ?_⟩
    generalize hE3 : upd H2 a3 _ = H3
    have w3 : SAt H3 a3 [] := new_at hE3
    have s3 := new_same hE3 n3
    refine ⟨by show 0 ≤ sizeLine; decide, fun a4 n4 => ?_⟩
    generalize hE4 : upd H3 a4 _ = H4
    have w4 : SAt H4 a4 [] := new_at hE4
    have s4 := new_same hE4 n4
    refine ⟨by show 4 ≤ sizeLine; decide, fun t0 nt0 => ?_⟩
    generalize hE5 : upd H4 t0 _ = H5
    have w5 := new_at hE5
    have s5 := new_same hE5 nt0
    refine ⟨t0, _, rfl, SqT.of w5, rfl, _, _, rfl, _, _, rfl, _, _, rfl, _, _, rfl, rfl, ?_⟩
    have s05 : Same H H5 := (((s1.trans s2).trans s3).trans s4).trans s5
    have B5 := B.same s05
    -- words
    obtain ⟨kv5, wd5, ht5⟩ := (hF.same s05).ex
    refine ⟨_, rfl, d, kv5, us.map (·.1), rfl, .inl wd5, ht5.keys, by rw [List.length_map]; omega, fun ys w6 hy hs nw6 => ?_⟩
    obtain rfl := srt_of hy hs
    obtain ⟨words, hwords⟩ : ∃ words, srt (us.map (·.1)) = words := ⟨_, rfl⟩
    rw [hwords]
    have wmem : ∀ x, x ∈ words ↔ x ∈ us.map (·.1) := fun x => by rw [← hwords]; exact srt_mem
    have wnd : words.Nodup := by rw [← hwords]; exact srt_nodup hN.nd
    have wlen : words.length = us.length := by rw [← hwords, srt_len, List.length_map]
    generalize hE6 : upd H5 w6 _ = H6
    have ww6 : SAt H6 w6 words := new_at hE6
    have s6 := new_same hE6 nw6
    have s06 := s05.trans s6
    have B6 := B.same s06
    have npw : w6 ≠ p := (B5.ne nw6).symm
    -- for turn in range(take(bag, 7))
    refine ⟨_, rfl, ?_⟩
    refine take_of (z := 7) B6 (by decide) (by decide) (by omega) fun r7 H7 r70 r71 B7 k7 => ?_
    obtain ⟨jt, rfl⟩ := Int.eq_ofNat_of_zero_le r70
    have k07 : Kp p H H7 := (Kp.of s06).trans k7
    have np1 : a1 ≠ p := (B.ne n1).symm
    have np2 : a2 ≠ p := ((B.same s1).ne n2).symm
    have np3 : a3 ≠ p := ((B.same (s1.trans s2)).ne n3).symm
    have np4 : a4 ≠ p := ((B.same ((s1.trans s2).trans s3)).ne n4).symm
    have fits0 : Fits us ⟨[], [], [], []⟩ := ⟨(fun x hx => nomatch hx), List.nodup_nil, (fun x hx => nomatch hx), (fun x hx => nomatch hx), fun ⟨S, hne, hS, _⟩ => by
      cases S with
      | nil => exact hne rfl
      | cons x r => exact nomatch hS x (List.mem_cons_self ..)⟩
    refine ⟨_, rfl, by omega, by omega, for_range (lo := 0) (n := (jt : Int).toNat) (fun i σ H' => Bag (n + 10 + 60 * i) H' p ∧ Kp p H H' ∧ LF K H' d us ∧ SAt H' w6 words ∧ ∃ (a1 a2 a3 a4 : Addr) (h s o l : List Str) (y7 y8 y9 y10 y11 y12 y13 y14 y15 y16 y17 y18 y19 : Option V), SAt H' a1 h ∧ SAt H' a2 s ∧ SAt H' a3 o ∧ SAt H' a4 l ∧ a1 ≠ p ∧ a2 ≠ p ∧ a3 ≠ p ∧ a4 ≠ p ∧ Fits us ⟨h, s, o, l⟩ ∧ s.Nodup ∧
        σ = [some (.ref p), some (.ref d), some (.ref a1), some (.ref a2), some (.ref a3), some (.ref a4), some (.ref w6), y7, y8, y9, y10, y11, y12, y13, y14, y15, y16, y17, y18, y19])
      ⟨B7.le (by omega), k07, (hF.same s06).keepB k7 B6, k7 _ _ ww6 npw, a1, a2, a3, a4, [], [], [], [], _, _, _, _, _, _, _, _, _, _, _, _, _, k7 _ _ (s6 _ _ (s5 _ _ (s4 _ _ (s3 _ _ (s2 _ _ w1))))) np1, k7 _ _ (s6 _ _ (s5 _ _ (s4 _ _ (s3 _ _ w2)))) np2, k7 _ _ (s6 _ _ (s5 _ _ (s4 _ _ w3))) np3, k7 _ _ (s6 _ _ (s5 _ _ w4)) np4, np1, np2, np3, np4, fits0, List.nodup_nil, rfl⟩ ?_ ?_⟩
    · clear w1 w2 w3 w4 np1 np2 np3 np4 hE1 hE2 hE3 hE4 hE5 hE6 n1 n2 n3 n4 nt0 w5 a1 a2 a3 a4
      rintro i σ H8 hi ⟨B8, k8, hF8, ww8, a1, a2, a3, a4, h, s, o, l, y7, y8, y9, y10, y11, y12, y13, y14, y15, y16, y17, y18, y19, w1, w2, w3, w4, np1, np2, np3, np4, hfit, snd, rfl⟩
      have hi7 : i < 7 := by omega
      obtain ⟨f1, f2, f3, f4, f5⟩ := id hfit
      have hin : ∀ x ∈ h ++ s ++ o ++ l, x ∈ us.map (·.1) := f1
      have lenOf : ∀ {ys : List Str}, ys.Nodup → (∀ y ∈ ys, y ∈ us.map (·.1)) → ys.length ≤ 16 := fun hn hs => Nat.le_trans (nodup_le _ _ hn hs) hN.len
      obtain ⟨m1, m2, m3⟩ := List.nodup_append.mp f2
      obtain ⟨m4, m5, m6⟩ := List.nodup_append.mp m1
      have hh : ∀ x ∈ h, x ∈ us.map (·.1) := fun x hx => hin x (by simp only [List.mem_append]; exact .inl (.inl (.inl hx)))
      have hs' : ∀ x ∈ s, x ∈ us.map (·.1) := fun x hx => hin x (by simp only [List.mem_append]; exact .inl (.inl (.inr hx)))
      have ho' : ∀ x ∈ o, x ∈ us.map (·.1) := fun x hx => hin x (by simp only [List.mem_append]; exact .inl (.inr hx))
      have hl' : ∀ x ∈ l, x ∈ us.map (·.1) := fun x hx => hin x (by simp only [List.mem_append]; exact .inr hx)
      -- word
      refine ⟨_, rfl, _, rfl, _, rfl, w6, _, rfl, .inl (SqL.of ww8), ?_⟩
      refine take_of (z := ((words.map V.str).length : Int)) B8 (by rw [List.length_map, wlen]; omega) (by rw [List.length_map, wlen]; omega) (by omega) fun r9 H9 r90 r91 B9 k9 => ?_
      rw [List.length_map] at r91
      obtain ⟨word, hword, eword⟩ := menu_str (zs := words) r90 r91
      refine ⟨w6, _, _, _, rfl, rfl, SqL.of (k9 _ _ ww8 npw), eword, ?_⟩
      have hwm := (wmem word).mp hword
      have hF9 := hF8.keepB k9 B8
      -- demands
      refine ⟨_, rfl, _, rfl, by show 2 ≤ sizeLine; decide, fun t1 nt1 => ?_⟩
      generalize hE10 : upd H9 t1 _ = H10
      have wt1 := new_at hE10
      have s10 := new_same hE10 nt1
      refine ⟨by show 1 ≤ sizeLine; decide, fun l1 nl1 => ?_⟩
      generalize hE11 : upd H10 l1 _ = H11
      have wl1 := new_at hE11
      have s11 := new_same hE11 nl1
      have s911 := s10.trans s11
      refine ⟨d, l1, us, [.ref t1], [(word, onS)], rfl, hF9.same s911, hB, SqL.of wl1, .cons (s11 _ _ wt1) .nil, fun e he => by rw [List.mem_singleton.mp he]; exact ⟨hwm, .inl rfl⟩, by show 1 ≤ 40; decide, fun Dd dxs es0 H12 nDd s12 wDd pDd dn dm => ?_⟩
      obtain ⟨es, hes⟩ : ∃ es, srtP es0 = es := ⟨_, rfl⟩
      rw [hes] at pDd
      have wd1 : ∀ e ∈ [(word, onS)], WD us e := fun e he => by rw [List.mem_singleton.mp he]; exact ⟨hwm, .inl rfl⟩
      have em : ∀ e, e ∈ es ↔ Reach us [(word, onS)] e := fun e => by rw [← hes, srtP_mem]; exact dm e
      have hC : Cl us es := ⟨fun e he => reach_wd wd1 ((em e).mp he), fun a ha b hb => (em b).mpr (.step ((em a).mp ha) hb)⟩
      have ewl : es.length ≤ 32 := by
        rw [← hes, srtP_len]
        exact wd_few hN dn fun e he => reach_wd wd1 ((dm e).mp he)
      have eok : ∀ e ∈ es, Ok2 e := fun e he => wd_ok hN (hC.wd e he)
      -- ons, offs
      refine ⟨_, rfl, Dd, onS, dxs, es, rfl, SqL.of wDd, pDd, by omega, fun on Hy1 nOn sy1 wOn => ?_⟩
      refine ⟨_, rfl, Dd, offS, dxs, es, rfl, SqL.of (sy1 _ _ wDd), pDd.same sy1, by omega, fun off Hy2 nOff sy2 wOff => ?_⟩
      refine ⟨by show 2 ≤ sizeLine; decide, fun t2 nt2 => ?_⟩
      generalize hE13 : upd Hy2 t2 _ = H13
      have wt2 := new_at hE13
      have s13 := new_same hE13 nt2
      refine ⟨t2, _, rfl, SqT.of wt2, rfl, _, _, rfl, _, _, rfl, rfl, ?_⟩
      have sA : Same H9 H13 := (((s911.trans s12).trans sy1).trans sy2).trans s13
      have sB : Same H12 H13 := (sy1.trans sy2).trans s13
      obtain ⟨ons, hons⟩ : ∃ xs, waysL es onS = xs := ⟨_, rfl⟩
      obtain ⟨offs, hoffs⟩ : ∃ xs, waysL es offS = xs := ⟨_, rfl⟩
      have onm : ∀ x, x ∈ ons ↔ (x, onS) ∈ es := fun x => by rw [← hons]; exact waysL_mem
      have offm : ∀ x, x ∈ offs ↔ (x, offS) ∈ es := fun x => by rw [← hoffs]; exact waysL_mem
      rw [hons] at wOn
      rw [hoffs] at wOff
      have wOn13 : SAt H13 on ons := s13 _ _ (sy2 _ _ wOn)
      have wOff13 : SAt H13 off offs := s13 _ _ wOff
      have keep13 : ∀ {a : Addr} {xs : List Str}, SAt H8 a xs → a ≠ p → SAt H13 a xs := fun e ne => sA _ _ (k9 _ _ e ne)
      have ww13 := keep13 ww8 npw
      have w1' := keep13 w1 np1
      have w2' := keep13 w2 np2
      have w3' := keep13 w3 np3
      have w4' := keep13 w4 np4
      have B13 := B9.same sA
      -- more
      refine ⟨_, rfl, w6, rfl, ⟨_, SqL.of ww13⟩, fun Dm nDm => flt (K := K) (fun x => decide ((x ∈ h ∨ x ∈ ons) ∧ x ∉ offs)) nDm ww13 (by omega) (fun x Ha P hx sa yes no => ?_) (fun H14 s14 wDm => ?_)⟩
      · refine ⟨rfl, ?_⟩
        refine ⟨_, rfl, _, rfl, a1, _, rfl, .inl (SqL.of (sa _ _ w1')), rfl, strs_flat h, _, rfl, ?_⟩
        rw [inV_str]
        have third : ∀ {Hb : Hp}, (x ∈ h ∨ x ∈ ons) → tTest (tOp (rIn K true) (tVar 19) (tVar 11)) [some (.ref p), some (.ref d), some (.ref a1), some (.ref a2), some (.ref a3), some (.ref a4), some (.ref w6), some (.int (0 + (i : Int))), some (.str word), some (.ref Dd), some (.ref on), some (.ref off), y12, y13, y14, y15, y16, y17, y18, some (.str x)] Ha (fun b H4 => if b = true then tVar 19 [some (.ref p), some (.ref d), some (.ref a1), some (.ref a2), some (.ref a3), some (.ref a4), some (.ref w6), some (.int (0 + (i : Int))), some (.str word), some (.ref Dd), some (.ref on), some (.ref off), y12, y13, y14, y15, y16, y17, y18, some (.str x)] H4 (fun y H5 => ∃ acc, H5 Dm = some (HO.lst acc) ∧ acc.length < sizeLine ∧ P (upd H5 Dm (HO.lst (acc ++ [y])))) else P H4) := fun {Hb} hc => by
          refine ⟨_, rfl, _, rfl, off, _, rfl, .inl (SqL.of (sa _ _ wOff13)), rfl, strs_flat offs, _, rfl, ?_⟩
          show if (if true = true then !inV (.str x) (offs.map V.str) else _) = true then _ else _
          rw [if_pos rfl, inV_str]
          by_cases c : x ∈ offs
          · rw [decide_eq_true c]
            exact iteF (no _ (Same.refl _) (decide_eq_false fun z => z.2 c))
          · rw [decide_eq_false c]
            exact iteT ⟨_, rfl, yes _ (Same.refl _) (decide_eq_true ⟨hc, c⟩)⟩
        by_cases c1 : x ∈ h
        · rw [decide_eq_true c1]
          exact iteT (iteT (third (Hb := Ha) (.inl c1)))
        · rw [decide_eq_false c1]
          refine iteF ⟨_, rfl, _, rfl, on, _, rfl, .inl (SqL.of (sa _ _ wOn13)), rfl, strs_flat ons, _, rfl, ?_⟩
          rw [inV_str]
          by_cases c2 : x ∈ ons
          · rw [decide_eq_true c2]
            exact iteT (third (Hb := Ha) (.inr c2))
          · rw [decide_eq_false c2]
            exact iteF (no _ (Same.refl _) (decide_eq_false fun z => z.1.elim c1 c2))
      obtain ⟨more, hmore⟩ : ∃ more, words.filter (fun x => decide ((x ∈ h ∨ x ∈ ons) ∧ x ∉ offs)) = more := ⟨_, rfl⟩
      rw [hmore] at wDm
      have mnd : more.Nodup := by rw [← hmore]; exact wnd.filter _
      have mm : ∀ x, x ∈ more ↔ x ∈ us.map (·.1) ∧ (x ∈ h ∨ (x, onS) ∈ es) ∧ (x, offS) ∉ es := fun x => by
        rw [← hmore, List.mem_filter, wmem]
        refine and_congr_right fun _ => ⟨fun z => ?_, fun z => decide_eq_true ⟨z.1.imp id (onm x).mpr, fun y => z.2 ((offm x).mp y)⟩⟩
        obtain ⟨z1, z2⟩ := of_decide_eq_true z
        exact ⟨z1.imp id (onm x).mp, fun y => z2 ((offm x).mpr y)⟩
      have mlen := lenOf mnd fun x hx => ((mm x).mp hx).1
      have B14 := B13.same s14
      have npm : Dm ≠ p := (B13.ne nDm).symm
      -- risen
      refine ⟨_, rfl, Dm, rfl, ⟨_, SqL.of wDm⟩, fun Dr nDr => fltB (K := K) (fun x => x ∈ s) (fun _ => True) B14 nDr wDm npm (by omega) mnd (fun x Ha m P hx ka Bm hm yes no => ?_) (fun H15 risen k15 B15 wDr rnd rsub _ => ?_)⟩
      · refine ⟨rfl, ?_⟩
        have w2a : SAt Ha a2 s := ka _ _ (s14 _ _ w2') np2
        refine ⟨_, rfl, _, rfl, a2, _, rfl, .inl (SqL.of w2a), rfl, strs_flat s, _, rfl, ?_⟩
        rw [inV_str]
        by_cases c1 : x ∈ s
        · rw [decide_eq_true c1]
          exact iteT (iteT ⟨_, rfl, yes _ (Kp.refl _ _) (Bm.le (by omega)) trivial⟩)
        · rw [decide_eq_false c1]
          refine iteF ⟨_, rfl, ?_⟩
          refine take_of (z := 3) Bm (by decide) (by decide) (by omega) fun rb Hb rb0 rb1 Bb kb => ?_
          refine ⟨_, _, rfl, rfl, _, rfl, ?_⟩
          refine ite2 (fun _ => ⟨_, rfl, yes _ kb Bb trivial⟩) (fun _ => no _ kb Bb c1)
      have wDm15 : SAt H15 Dm more := k15 _ _ wDm npm
      have keep15 : ∀ {a : Addr} {xs : List Str}, SAt H13 a xs → a ≠ p → SAt H15 a xs := fun e ne => k15 _ _ (s14 _ _ e) ne
      have npr : Dr ≠ p := (B14.ne nDr).symm
      have wDr15 : SAt H15 Dr risen := wDr
      -- shut
      refine ⟨_, rfl, Dm, rfl, ⟨_, SqL.of wDm15⟩, fun Ds nDs => flt (K := K) (fun x => decide (x ∉ risen)) nDs wDm15 (by omega) (fun x Ha P hx sa yes no => ?_) (fun H16 s16 wDs => ?_)⟩
      · refine ⟨rfl, _, rfl, _, rfl, Dr, _, rfl, .inl (SqL.of (sa _ _ wDr15)), rfl, strs_flat risen, _, rfl, ?_⟩
        show if (if true = true then !inV (.str x) (risen.map V.str) else _) = true then _ else _
        rw [if_pos rfl, inV_str]
        by_cases c : x ∈ risen
        · rw [decide_eq_true c]
          exact iteF (no _ (Same.refl _) (decide_eq_false fun z => z c))
        · rw [decide_eq_false c]
          exact iteT ⟨_, rfl, yes _ (Same.refl _) (decide_eq_true c)⟩
      have B16 := B15.same s16
      have npon : on ≠ p := ((B9.same (s911.trans s12)).ne nOn).symm
      have npoff : off ≠ p := ((B9.same ((s911.trans s12).trans sy1)).ne nOff).symm
      have npd : Dd ≠ p := ((B9.same s911).ne nDd).symm
      have keep16 : ∀ {a : Addr} {xs : List Str}, SAt H13 a xs → a ≠ p → SAt H16 a xs := fun e ne => s16 _ _ (keep15 e ne)
      have k816 : Kp p H8 H16 := ((((k9.same sA).same s14).trans k15).same s16)
      have hF16 : LF K H16 d us := (((hF9.same sA).same s14).keepB k15 B14).same s16
      have wDd16 : H16 Dd = some (.lst dxs) := s16 _ _ (k15 _ _ (s14 _ _ (sB _ _ wDd)) npd)
      have pDd16 : PrH H16 dxs es := (((pDd.same sB).same s14).keep k15 B14.notTup).same s16
      -- a word behind the first if
      refine ⟨fun σ H' => Bag (n + 10 + 60 * i + 20) H' p ∧ Kp p H H' ∧ LF K H' d us ∧ SAt H' w6 words ∧ ∃ (a1 a2 a3 a4 : Addr) (h s o l : List Str) (y7 y8 y9 y10 y11 y12 y13 y14 y15 y16 y17 y18 y19 : Option V), SAt H' a1 h ∧ SAt H' a2 s ∧ SAt H' a3 o ∧ SAt H' a4 l ∧ a1 ≠ p ∧ a2 ≠ p ∧ a3 ≠ p ∧ a4 ≠ p ∧ Fits us ⟨h, s, o, l⟩ ∧ s.Nodup ∧
        σ = [some (.ref p), some (.ref d), some (.ref a1), some (.ref a2), some (.ref a3), some (.ref a4), some (.ref w6), y7, y8, y9, y10, y11, y12, y13, y14, y15, y16, y17, y18, y19], ?_, ?_⟩
-- G4 BEGIN
      · refine ⟨fun b H' => Same H16 H' ∧ (b = true → es.any (lackB us) = false ∧ ¬ Clash es ∧ ¬ Knotted (wt us) (more.filter fun x => decide (x ∉ risen))), ?_, ?_⟩
        · refine ⟨_, rfl, _, rfl, d, Dd, us, dxs, es, rfl, hF16, SqL.of wDd16, pDd16, hC.wd, by omega, fun Ha sa => ⟨_, rfl, ?_⟩⟩
          cases hlk : es.any (lackB us) with
          | true => exact iteF ⟨sa, fun z => Bool.noConfusion z⟩
          | false =>
            refine iteT ⟨_, rfl, Dd, dxs, es, rfl, SqL.of (sa _ _ wDd16), pDd16.same sa, eok, by omega, fun v Hb sb hv => ⟨rfl, _, rfl, ?_⟩⟩
            have sab := sa.trans sb
            rcases hv with ⟨rfl, hncl⟩ | ⟨z, rfl, _⟩
            · refine iteT ⟨_, rfl, _, rfl, d, Ds, us, _, rfl, hF16.same sab, sab _ _ wDs, Nat.le_trans (List.length_filter_le _ _) mlen, fun x hx => ((mm x).mp (List.mem_filter.mp hx).1).1, fun left Dk Hc sc nDk wk lok hleft => ⟨by show 0 ≤ sizeLine; decide, fun e ne => ?_⟩⟩
              generalize hEe : upd Hc e _ = He
              have we : He e = some (.lst (([] : List Str).map V.str)) := new_at hEe
              have se := new_same hEe ne
              refine eqD_strsL (SqL.of (se _ _ wk)) (SqL.of we) lok (fun y hy => nomatch hy) ⟨_, rfl, (sab.trans sc).trans se, fun z => ⟨rfl, hncl, hleft.mp (of_decide_eq_true z)⟩⟩
            · exact iteF ⟨sab, fun z => Bool.noConfusion z⟩
        · rintro b H17 ⟨s17, hb⟩
          have B17 := B16.same s17
          have keep17 : ∀ {a : Addr} {xs : List Str}, SAt H13 a xs → a ≠ p → SAt H17 a xs := fun e ne => s17 _ _ (keep16 e ne)
          have k817 := k816.same s17
          have w1t := keep17 w1' np1
          have w2t := keep17 w2' np2
          have w3t := keep17 w3' np3
          have w4t := keep17 w4' np4
          have wwt := keep17 ww13 npw
          cases b with
          | false =>
            refine iteF ⟨B17.le (by omega), k8.trans k817, hF16.same s17, wwt, a1, a2, a3, a4, h, s, o, l, _, _, _, _, _, _, _, _, _, _, _, _, _, w1t, w2t, w3t, w4t, np1, np2, np3, np4, hfit, snd, rfl⟩
          | true =>
            obtain ⟨hlk, hncl, hnk⟩ := hb rfl
            refine iteT ⟨_, rfl, _, rfl, by show 2 ≤ sizeLine; decide, fun t3 nt3 => ?_⟩
            generalize hE18 : upd H17 t3 _ = H18
            have wt3 := new_at hE18
            have s18 := new_same hE18 nt3
            refine ⟨t3, _, rfl, SqT.of wt3, rfl, _, _, rfl, _, _, rfl, rfl, ?_⟩
            have wOn18 : SAt H18 on ons := s18 _ _ (keep17 wOn13 npon)
            have wOff18 : SAt H18 off offs := s18 _ _ (keep17 wOff13 npoff)
            have onl : ons.length ≤ 32 := by
              rw [← hons]
              unfold waysL
              rw [List.length_map]
              exact Nat.le_trans (List.length_filter_le _ _) ewl
            have offl : offs.length ≤ 32 := by
              rw [← hoffs]
              unfold waysL
              rw [List.length_map]
              exact Nat.le_trans (List.length_filter_le _ _) ewl
            have hboth : ∀ x, x ∈ ons ++ offs ↔ ¬ ((x, onS) ∉ es ∧ (x, offS) ∉ es) := fun x => by
              rw [List.mem_append, onm, offm]
              exact ⟨fun z y => z.elim y.1 y.2, fun z => Classical.byContradiction fun y => z ⟨fun a => y (.inl a), fun a => y (.inr a)⟩⟩
            have w3u := s18 _ _ w3t
            have w4u := s18 _ _ w4t
            -- owed, lost
            refine ⟨_, rfl, a3, rfl, ⟨_, SqL.of w3u⟩, fun Do nDo => flt (K := K) (fun x => decide ((x, onS) ∉ es ∧ (x, offS) ∉ es)) nDo w3u (Nat.le_trans (lenOf m5 ho') (by decide)) (fun x Ha P hx sa yes no => ?_) (fun H19 s19 wDo => ?_)⟩
            · refine ⟨rfl, _, rfl, _, rfl, _, rfl, on, off, _, _, rfl, rfl, sa _ _ wOn18, sa _ _ wOff18, by rw [List.length_map, List.length_map]; exact Nat.le_of_lt (small1000 (by omega)), fun tc ntc => ?_⟩
              rw [← List.map_append]
              generalize hEc : upd Ha tc _ = Hc
              have wc := new_at hEc
              have sc := new_same hEc ntc
              refine ⟨tc, _, rfl, .inl (SqL.of wc), rfl, strs_flat (ons ++ offs), _, rfl, ?_⟩
              show if (if true = true then !inV (.str x) ((ons ++ offs).map V.str) else _) = true then _ else _
              rw [if_pos rfl, inV_str]
              by_cases c : x ∈ ons ++ offs
              · rw [decide_eq_true c]
                exact iteF (no _ sc (decide_eq_false ((hboth x).mp c)))
              · rw [decide_eq_false c]
                exact iteT ⟨_, rfl, yes _ sc (decide_eq_true (Classical.byContradiction fun z => c ((hboth x).mpr z)))⟩
            have w4v := s19 _ _ w4u
            refine ⟨_, rfl, a4, rfl, ⟨_, SqL.of w4v⟩, fun Dl nDl => flt (K := K) (fun x => decide ((x, onS) ∉ es ∧ (x, offS) ∉ es)) nDl w4v (Nat.le_trans (lenOf m2 hl') (by decide)) (fun x Ha P hx sa yes no => ?_) (fun H20 s20 wDl => ?_)⟩
            · refine ⟨rfl, _, rfl, _, rfl, _, rfl, on, off, _, _, rfl, rfl, sa _ _ (s19 _ _ wOn18), sa _ _ (s19 _ _ wOff18), by rw [List.length_map, List.length_map]; exact Nat.le_of_lt (small1000 (by omega)), fun tc ntc => ?_⟩
              rw [← List.map_append]
              generalize hEc : upd Ha tc _ = Hc
              have wc := new_at hEc
              have sc := new_same hEc ntc
              refine ⟨tc, _, rfl, .inl (SqL.of wc), rfl, strs_flat (ons ++ offs), _, rfl, ?_⟩
              show if (if true = true then !inV (.str x) ((ons ++ offs).map V.str) else _) = true then _ else _
              rw [if_pos rfl, inV_str]
              by_cases c : x ∈ ons ++ offs
              · rw [decide_eq_true c]
                exact iteF (no _ sc (decide_eq_false ((hboth x).mp c)))
              · rw [decide_eq_false c]
                exact iteT ⟨_, rfl, yes _ sc (decide_eq_true (Classical.byContradiction fun z => c ((hboth x).mpr z)))⟩
            have s1720 := (s18.trans s19).trans s20
            have B18 := B17.same s18
            have npo : Do ≠ p := (B18.ne nDo).symm
            have npl : Dl ≠ p := ((B18.same s19).ne nDl).symm
            have fit' := fits_on hfit hC (fun x hx u hu n hn => lack_none hlk hx hu hn) hncl mm mnd (fun x hx => (rsub x hx).1) hnk
            exact ⟨(B17.same s1720).le (by omega), (k8.trans k817).same s1720, (hF16.same s17).same s1720, s1720 _ _ wwt, Dm, Dr, Do, Dl, more, risen, _, _, _, _, _, _, _, _, _, _, _, _, _, _, _, s1720 _ _ (s17 _ _ (s16 _ _ wDm15)), s1720 _ _ (s17 _ _ (s16 _ _ wDr15)), s20 _ _ wDo, wDl, npm, npr, npo, npl, fit', rnd, rfl⟩
-- G4 END
-- G5 BEGIN
      · clear hfit f1 f2 f3 f4 f5 m1 m2 m3 m4 m5 m6 hh hs' ho' hl' hin w1 w2 w3 w4 np1 np2 np3 np4 snd w1' w2' w3' w4' keep16 k816 hF16 wDd16 pDd16 keep15
        rintro σ H17 ⟨B17, k17, hF17, ww17, a1, a2, a3, a4, h, s, o, l, y7, y8, y9, y10, y11, y12, y13, y14, y15, y16, y17, y18, y19, w1, w2, w3, w4, np1, np2, np3, np4, hfit, snd, rfl⟩
        obtain ⟨f1, f2, f3, f4, f5⟩ := id hfit
        have hin : ∀ x ∈ h ++ s ++ o ++ l, x ∈ us.map (·.1) := f1
        obtain ⟨m1, m2, m3⟩ := List.nodup_append.mp f2
        obtain ⟨m4, m5, m6⟩ := List.nodup_append.mp m1
        have hh : ∀ x ∈ h, x ∈ us.map (·.1) := fun x hx => hin x (by simp only [List.mem_append]; exact .inl (.inl (.inl hx)))
        have ho' : ∀ x ∈ o, x ∈ us.map (·.1) := fun x hx => hin x (by simp only [List.mem_append]; exact .inl (.inr hx))
        have hl' : ∀ x ∈ l, x ∈ us.map (·.1) := fun x hx => hin x (by simp only [List.mem_append]; exact .inr hx)
        have hlen : h.length ≤ 16 := lenOf m4 hh
        have olen : o.length ≤ 16 := lenOf m5 ho'
        have llen : l.length ≤ 16 := lenOf m2 hl'
        -- if hoped != [] and take(bag, 3) == 0
        refine ⟨fun b H' => Kp p H17 H' ∧ Bag (n + 10 + 60 * i + 21) H' p ∧ (b = true → h ≠ []), ?_, ?_⟩
        · refine ⟨_, rfl, by show 0 ≤ sizeLine; decide, fun e ne => ?_⟩
          generalize hEe : upd H17 e _ = He
          have we : He e = some (.lst (([] : List Str).map V.str)) := new_at hEe
          have se := new_same hEe ne
          refine neD_strs (SqL.of (se _ _ w1)) (SqL.of we) (fun x hx => (hN.nm x (hh x hx)).ok) (fun y hy => nomatch hy) ⟨_, rfl, ?_⟩
          by_cases c : h = []
          · rw [decide_eq_true c]
            exact iteF ⟨Kp.of se, (B17.same se).le (by omega), fun z => Bool.noConfusion z⟩
          · rw [decide_eq_false c]
            refine iteT ⟨_, rfl, ?_⟩
            refine take_of (z := 3) (B17.same se) (by decide) (by decide) (by omega) fun rb Hb rb0 rb1 Bb kb => ?_
            exact ⟨rfl, _, rfl, (Kp.of se).trans kb, Bb, fun _ => c⟩
        · rintro b H18 ⟨k18, B18, hb⟩
          have hF18 := hF17.keepB k18 B17
          have ww18 : SAt H18 w6 words := k18 _ _ ww17 npw
          have w1' : SAt H18 a1 h := k18 _ _ w1 np1
          have w2' : SAt H18 a2 s := k18 _ _ w2 np2
          have w3' : SAt H18 a3 o := k18 _ _ w3 np3
          have w4' : SAt H18 a4 l := k18 _ _ w4 np4
          cases b with
          | false => exact iteF ⟨B18.le (by omega), k17.trans k18, hF18, ww18, a1, a2, a3, a4, h, s, o, l, _, _, _, _, _, _, _, _, _, _, _, _, _, w1', w2', w3', w4', np1, np2, np3, np4, hfit, snd, rfl⟩
          | true =>
            have hne := hb rfl
            have hpos := List.length_pos_iff.mpr hne
            -- fallen
            refine iteT ⟨_, rfl, _, rfl, _, rfl, a1, _, rfl, .inl (SqL.of w1'), ?_⟩
            refine take_of (z := ((h.map V.str).length : Int)) B18 (by rw [List.length_map]; omega) (by rw [List.length_map]; omega) (by omega) fun rc H19 rc0 rc1 B19 k19 => ?_
            rw [List.length_map] at rc1
            obtain ⟨fallen, hfallen, efallen⟩ := menu_str (zs := h) rc0 rc1
            refine ⟨a1, _, _, _, rfl, rfl, SqL.of (k19 _ _ w1' np1), efallen, ?_⟩
            have hfm := hh fallen hfallen
            have hF19 := hF18.keepB k19 B18
            -- down
            refine ⟨_, rfl, _, rfl, by show 2 ≤ sizeLine; decide, fun t1 nt1 => ?_⟩
            generalize hE20 : upd H19 t1 _ = H20
            have wt1 := new_at hE20
            have s20 := new_same hE20 nt1
            refine ⟨by show 1 ≤ sizeLine; decide, fun l1 nl1 => ?_⟩
            generalize hE21 : upd H20 l1 _ = H21
            have wl1 := new_at hE21
            have s21 := new_same hE21 nl1
            have s1921 := s20.trans s21
            have wd1 : ∀ e ∈ [(fallen, offS)], WD us e := fun e he => by rw [List.mem_singleton.mp he]; exact ⟨hfm, .inr rfl⟩
            refine ⟨d, l1, us, [.ref t1], [(fallen, offS)], rfl, hF19.same s1921, hB, SqL.of wl1, .cons (s21 _ _ wt1) .nil, wd1, by show 1 ≤ 40; decide, fun De exs es1 H22 nDe s22 wDe pDe dn1 dm1 => ?_⟩
            obtain ⟨fs, hfs⟩ : ∃ fs, srtP es1 = fs := ⟨_, rfl⟩
            rw [hfs] at pDe
            have fm : ∀ e, e ∈ fs ↔ Reach us [(fallen, offS)] e := fun e => by rw [← hfs, srtP_mem]; exact dm1 e
            have hC1 : Cl us fs := ⟨fun e he => reach_wd wd1 ((fm e).mp he), fun a ha b hb => (fm b).mpr (.step ((fm a).mp ha) hb)⟩
            have fsl : fs.length ≤ 32 := by
              rw [← hfs, srtP_len]
              exact wd_few hN dn1 fun e he => reach_wd wd1 ((dm1 e).mp he)
            have fsn : fs.Nodup := by rw [← hfs]; exact (srtP_perm es1).nodup_iff.mpr dn1
            refine ⟨De, offS, exs, fs, rfl, SqL.of wDe, pDe, by omega, fun dw H23 ndw s23 wdw => ?_⟩
            obtain ⟨down, hdown⟩ : ∃ xs, waysL fs offS = xs := ⟨_, rfl⟩
            rw [hdown] at wdw
            have dwm : ∀ x, x ∈ down ↔ (x, offS) ∈ fs := fun x => by rw [← hdown]; exact waysL_mem
            have dwn : down.Nodup := by
              rw [← hdown]
              exact waysL_nodup fsn
            have dwl := lenOf dwn fun x hx => (hC1.wd _ ((dwm x).mp hx)).1
            have s1923 := (s1921.trans s22).trans s23
            have B23 := B19.same s1923
            have keep23 : ∀ {a : Addr} {xs : List Str}, SAt H18 a xs → a ≠ p → SAt H23 a xs := fun e ne => s1923 _ _ (k19 _ _ e ne)
            have w1a := keep23 w1' np1
            have w3a := keep23 w3' np3
            have w4a := keep23 w4' np4
            -- ring
            obtain ⟨u, hfu, hu⟩ := fu_of hfm hN.nd
            have hF23 := hF19.same s1923
            obtain ⟨kv23, hd23, htb⟩ := hF23.ex
            obtain ⟨v1, hv1, tt1, q1, q2, q3, q4, g1, rfl, wq0, wq1, _⟩ := htb.get hN.nd (fallen, u) hu
            have hnl : u.needs.length ≤ 100 := (hF23.few _ hu).1
            refine ⟨_, rfl, _, rfl, d, .ref tt1, rfl, by rw [← hv1]; exact DGet.k (k := Sum.inr fallen) hd23, tt1, _, _, _, rfl, rfl, wq0, at1, q1, rfl, ⟨_, wq1⟩, fun D2 nD2 => ?_⟩
            refine lc_tup (xs := u.needs.map V.str) (fun j H' => Same H23 H' ∧ H' D2 = some (.lst (((u.needs.take j).map fun x => decide (x ∈ down)).map V.bl))) ⟨same_upd nD2, upd_same⟩ (fun j H' _ h => tup_same h.1 wq1) ?_ ?_
            · rintro j x Ha hj ⟨sa, wa⟩
              obtain ⟨z, hz, rfl⟩ := map_str_get hj
              refine ⟨rfl, yes_of (iteT ⟨_, rfl, _, rfl, dw, _, rfl, .inl (SqL.of (sa _ _ wdw)), rfl, strs_flat down, ?_⟩)⟩
              show ∃ acc, Ha D2 = some (.lst acc) ∧ _
              refine ⟨_, wa, ?_, Same.own (q := D2) sa (mut_keep rfl) nD2, ?_⟩
              · rw [List.length_map, List.length_map]
                exact Nat.lt_of_le_of_lt (List.length_take_le' ..) (small1000 (by omega))
              · rw [upd_same, take_snoc hz, List.map_append, List.map_append]
                show some (HO.lst (_ ++ [V.bl (inV (.str z) (down.map V.str))])) = _
                rw [inV_str]
                rfl
            rintro H24 ⟨s24, w24⟩
            rw [List.length_map, List.take_length] at w24
            refine ⟨D2, _, rfl, .inl (SqL.of w24), rfl, bls_flat _, ?_⟩
            obtain ⟨ring, hring⟩ : ∃ ring, inV (.bl true) ((u.needs.map fun x => decide (x ∈ down)).map V.bl) = ring := ⟨_, rfl⟩
            rw [hring]
            have hrg : ring = true ↔ ∃ z ∈ u.needs, (z, offS) ∈ fs := by
              rw [← hring, inV_bl, List.any_map, List.any_eq_true]
              exact ⟨fun ⟨z, hz, e⟩ => ⟨z, hz, (dwm z).mp (of_decide_eq_true e)⟩, fun ⟨z, hz, e⟩ => ⟨z, hz, decide_eq_true ((dwm z).mpr e)⟩⟩
            have wdw24 : SAt H24 dw down := s24 _ _ wdw
            have w1b : SAt H24 a1 h := s24 _ _ w1a
            have w3b : SAt H24 a3 o := s24 _ _ w3a
            have w4b : SAt H24 a4 l := s24 _ _ w4a
            -- gone
            refine ⟨_, rfl, dw, rfl, ⟨_, SqL.of wdw24⟩, fun Dg nDg => flt (K := K) (fun x => decide (x ∈ h ++ o ∧ (ring = true ∨ x ≠ fallen))) nDg wdw24 (by omega) (fun x Ha P hx sa yes no => ?_) (fun H25 s25 wDg => ?_)⟩
            · refine ⟨rfl, _, rfl, _, rfl, _, rfl, a1, a3, _, _, rfl, rfl, sa _ _ w1b, sa _ _ w3b, by rw [List.length_map, List.length_map]; exact Nat.le_of_lt (small1000 (by omega)), fun tc ntc => ?_⟩
              rw [← List.map_append]
              generalize hEc : upd Ha tc _ = Hc
              have wc := new_at hEc
              have sc := new_same hEc ntc
              refine ⟨tc, _, rfl, .inl (SqL.of wc), rfl, strs_flat (h ++ o), _, rfl, ?_⟩
              show if inV (.str x) ((h ++ o).map V.str) = true then _ else _
              rw [inV_str]
              by_cases c : x ∈ h ++ o
              · rw [decide_eq_true c]
                refine iteT ⟨_, rfl, ring, rfl, ?_⟩
                cases hrt : ring with
                | true => exact iteT (iteT ⟨_, rfl, yes _ sc (decide_eq_true ⟨c, .inl hrt⟩)⟩)
                | false =>
                  refine iteF ⟨_, rfl, _, rfl, rfl, _, rfl, ?_⟩
                  rw [UW.dec_str]
                  by_cases c2 : x = fallen
                  · rw [decide_eq_true c2]
                    exact iteF (no _ sc (decide_eq_false fun z => z.2.elim (fun y => by rw [hrt] at y; cases y) fun y => y c2))
                  · rw [decide_eq_false c2]
                    exact iteT ⟨_, rfl, yes _ sc (decide_eq_true ⟨c, .inr c2⟩)⟩
              · rw [decide_eq_false c]
                exact iteF (no _ sc (decide_eq_false fun z => c z.1))
            obtain ⟨gone, hgone⟩ : ∃ xs, down.filter (fun x => decide (x ∈ h ++ o ∧ (ring = true ∨ x ≠ fallen))) = xs := ⟨_, rfl⟩
            rw [hgone] at wDg
            have gm : ∀ x, x ∈ gone ↔ (x, offS) ∈ fs ∧ x ∈ h ++ o ∧ (ring = true ∨ x ≠ fallen) := fun x => by
              rw [← hgone, List.mem_filter, dwm]
              exact and_congr_right fun _ => ⟨fun z => of_decide_eq_true z, fun z => decide_eq_true z⟩
            have gnd : gone.Nodup := by rw [← hgone]; exact dwn.filter _
            have glen : gone.length ≤ 16 := by
              rw [← hgone]
              exact Nat.le_trans (List.length_filter_le _ _) dwl
            have w4c : SAt H25 a4 l := s25 _ _ w4b
            -- lost
            refine ⟨_, rfl, _, rfl, Dg, rfl, ⟨_, SqL.of wDg⟩, fun Dx nDx => flt (K := K) (fun x => decide (x ∉ l)) nDx wDg (by omega) (fun x Ha P hx sa yes no => ?_) (fun H26 s26 wDx => ?_)⟩
            · refine ⟨rfl, _, rfl, _, rfl, a4, _, rfl, .inl (SqL.of (sa _ _ w4c)), rfl, strs_flat l, _, rfl, ?_⟩
              show if (if true = true then !inV (.str x) (l.map V.str) else _) = true then _ else _
              rw [if_pos rfl, inV_str]
              by_cases c : x ∈ l
              · rw [decide_eq_true c]
                exact iteF (no _ (Same.refl _) (decide_eq_false fun z => z c))
              · rw [decide_eq_false c]
                exact iteT ⟨_, rfl, yes _ (Same.refl _) (decide_eq_true c)⟩
            obtain ⟨fresh, hfresh⟩ : ∃ xs, gone.filter (fun x => decide (x ∉ l)) = xs := ⟨_, rfl⟩
            rw [hfresh] at wDx
            have frl : fresh.length ≤ 16 := by
              rw [← hfresh]
              exact Nat.le_trans (List.length_filter_le _ _) glen
            refine ⟨a4, Dx, _, _, rfl, rfl, s26 _ _ w4c, wDx, by rw [List.length_map, List.length_map]; exact Nat.le_of_lt (small1000 (by omega)), fun c1 nc1 => ?_⟩
            rw [← List.map_append]
            generalize hE27 : upd H26 c1 _ = H27
            have wc1 := new_at hE27
            have s27 := new_same hE27 nc1
            refine ⟨c1, l ++ fresh, rfl, SqL.of wc1, by rw [List.length_append]; omega, fun ys q5 hy hs nq5 => ?_⟩
            obtain rfl := srt_of hy hs
            generalize hE28 : upd H27 q5 _ = H28
            have wq5 := new_at hE28
            have s28 := new_same hE28 nq5
            have s2428 := ((s25.trans s26).trans s27).trans s28
            have w3c : SAt H28 a3 o := s2428 _ _ w3b
            have wdw28 : SAt H28 dw down := s2428 _ _ wdw24
            -- owed
            refine ⟨_, rfl, a3, rfl, ⟨_, SqL.of w3c⟩, fun Dy nDy => flt (K := K) (fun x => decide (x ∉ down)) nDy w3c (by omega) (fun x Ha P hx sa yes no => ?_) (fun H29 s29 wDy => ?_)⟩
            · refine ⟨rfl, _, rfl, _, rfl, dw, _, rfl, .inl (SqL.of (sa _ _ wdw28)), rfl, strs_flat down, _, rfl, ?_⟩
              show if (if true = true then !inV (.str x) (down.map V.str) else _) = true then _ else _
              rw [if_pos rfl, inV_str]
              by_cases c : x ∈ down
              · rw [decide_eq_true c]
                exact iteF (no _ (Same.refl _) (decide_eq_false fun z => z c))
              · rw [decide_eq_false c]
                exact iteT ⟨_, rfl, yes _ (Same.refl _) (decide_eq_true c)⟩
            obtain ⟨kept, hkept⟩ : ∃ xs, o.filter (fun x => decide (x ∉ down)) = xs := ⟨_, rfl⟩
            rw [hkept] at wDy
            have kpl : kept.length ≤ 16 := by
              rw [← hkept]
              exact Nat.le_trans (List.length_filter_le _ _) olen
            refine ⟨_, rfl, by show 1 ≤ sizeLine; decide, fun lf nlf => ?_⟩
            generalize hE30 : upd H29 lf _ = H30
            have wlf := new_at hE30
            have s30 := new_same hE30 nlf
            unfold tNoPart
            obtain ⟨one, hone⟩ : ∃ one : List Str, (if ring = true then [] else [fallen]) = one := ⟨_, rfl⟩
            have cut : cutV [V.str fallen] none (some (if (!ring) = true then 1 else 0)) = one.map V.str := by
              rw [← hone]
              cases ring <;> rfl
            have onl : one.length ≤ 1 := by
              rw [← hone]
              cases ring
              · exact Nat.le_refl _
              · exact Nat.zero_le _
            have onem : ∀ x, x ∈ one ↔ ring = false ∧ x = fallen := fun x => by
              rw [← hone]
              cases ring
              · exact ⟨fun z => ⟨rfl, List.mem_singleton.mp z⟩, fun z => List.mem_singleton.mpr z.2⟩
              · exact ⟨fun z => (nomatch z), fun z => Bool.noConfusion z.1⟩
            refine ⟨_, rfl, ring, rfl, .inr ⟨!ring, rfl, _, rfl, lf, _, rfl, SqL.of wlf, fun ps nps => ?_⟩⟩
            rw [cut]
            generalize hE31 : upd H30 ps _ = H31
            have wps := new_at hE31
            have s31 := new_same hE31 nps
            have s2931 := s30.trans s31
            refine ⟨Dy, ps, _, _, rfl, rfl, s2931 _ _ wDy, wps, by rw [List.length_map, List.length_map]; exact Nat.le_of_lt (small1000 (by omega)), fun c2 nc2 => ?_⟩
            rw [← List.map_append]
            generalize hE32 : upd H31 c2 _ = H32
            have wc2 := new_at hE32
            have s32 := new_same hE32 nc2
            refine ⟨c2, kept ++ one, rfl, SqL.of wc2, by rw [List.length_append]; omega, fun ys q6 hy hs nq6 => ?_⟩
            obtain rfl := srt_of hy hs
            generalize hE33 : upd H32 q6 _ = H33
            have wq6 := new_at hE33
            have s33 := new_same hE33 nq6
            have s2833 := ((s29.trans s2931).trans s32).trans s33
            have s2433 := s2428.trans s2833
            have w1d : SAt H33 a1 h := s2433 _ _ w1b
            have wdw33 : SAt H33 dw down := s2433 _ _ wdw24
            -- hoped
            refine ⟨_, rfl, a1, rfl, ⟨_, SqL.of w1d⟩, fun Dz nDz => flt (K := K) (fun x => decide (x ∉ down)) nDz w1d (by omega) (fun x Ha P hx sa yes no => ?_) (fun H34 s34 wDz => ?_)⟩
            · refine ⟨rfl, _, rfl, _, rfl, dw, _, rfl, .inl (SqL.of (sa _ _ wdw33)), rfl, strs_flat down, _, rfl, ?_⟩
              show if (if true = true then !inV (.str x) (down.map V.str) else _) = true then _ else _
              rw [if_pos rfl, inV_str]
              by_cases c : x ∈ down
              · rw [decide_eq_true c]
                exact iteF (no _ (Same.refl _) (decide_eq_false fun z => z c))
              · rw [decide_eq_false c]
                exact iteT ⟨_, rfl, yes _ (Same.refl _) (decide_eq_true c)⟩
            have s2334 : Same H23 H34 := s24.trans (s2433.trans s34)
            have B34 := B23.same s2334
            have npq5 : q5 ≠ p := ((B23.same (s24.trans ((s25.trans s26).trans s27))).ne nq5).symm
            have npq6 : q6 ≠ p := ((B23.same (s24.trans (s2428.trans ((s29.trans s2931).trans s32)))).ne nq6).symm
            have npz : Dz ≠ p := ((B23.same (s24.trans s2433)).ne nDz).symm
            have notdown : ∀ x, x ∉ down ↔ (x, offS) ∉ fs := fun x => not_congr (dwm x)
            have fit' : Fits us ⟨h.filter (fun x => decide (x ∉ down)), s, srt (kept ++ one), srt (l ++ fresh)⟩ := by
              refine fits_fall ring hfit hC1 hfallen ((fm _).mpr (.base (List.mem_singleton.mpr rfl))) hfu hrg (fun x => ?_) (m4.filter _) (fun x => ?_) (srt_nodup ?_) (fun x => ?_) (srt_nodup ?_)
              · rw [List.mem_filter, decide_eq_true_iff, notdown]
              · rw [srt_mem, List.mem_append, onem, ← hkept, List.mem_filter, decide_eq_true_iff, notdown]
              · refine List.nodup_append.mpr ⟨by rw [← hkept]; exact m5.filter _, ?_, fun x hx y hy e => ?_⟩
                · rw [← hone]
                  cases ring
                  · exact List.nodup_cons.mpr ⟨List.not_mem_nil, List.nodup_nil⟩
                  · exact List.nodup_nil
                · subst e
                  rw [← hkept] at hx
                  exact m6 x (((onem x).mp hy).2 ▸ hfallen) x (List.mem_filter.mp hx).1 rfl
              · rw [srt_mem, List.mem_append, ← hfresh, List.mem_filter, gm]
                refine ⟨fun z => z.imp id fun y => y.1, fun z => z.elim .inl fun y => ?_⟩
                by_cases c : x ∈ l
                · exact .inl c
                · exact .inr ⟨y, decide_eq_true c⟩
              · refine List.nodup_append.mpr ⟨m2, by rw [← hfresh]; exact gnd.filter _, fun x hx y hy e => ?_⟩
                subst e
                rw [← hfresh] at hy
                exact of_decide_eq_true (List.mem_filter.mp hy).2 hx
            exact ⟨B34.le (by omega), ((k17.trans k18).trans k19).same (s1923.trans s2334), hF23.same s2334, s2334 _ _ (keep23 ww18 npw), Dz, a2, q6, q5, _, s, _, _, _, _, _, _, _, _, _, _, _, _, _, _, _, wDz, s2334 _ _ (keep23 w2' np2), s34 _ _ wq6, s34 _ _ (s2833 _ _ wq5), npz, np2, npq6, npq5, fit', snd, rfl⟩
-- G5 END
    · rintro σ H8 ⟨B8, k8, hF8, ww8, a1, a2, a3, a4, h, s, o, l, y7, y8, y9, y10, y11, y12, y13, y14, y15, y16, y17, y18, y19, w1, w2, w3, w4, np1, np2, np3, np4, hfit, snd, rfl⟩
      -- stood
      refine ⟨_, rfl, w6, rfl, ⟨_, SqL.of ww8⟩, fun Dr nDr => fltB (K := K) (fun x => x ∈ s ∧ x ∈ h) (fun x => x ∈ s) B8 nDr ww8 npw (by omega) wnd (fun x Ha m P hx ka Bm hm yes no => ?_) (fun H9 stood k9 B9 wDr rnd rsub rmust => ?_)⟩
      · refine ⟨rfl, ?_⟩
        have w1a : SAt Ha a1 h := ka _ _ w1 np1
        have w2a : SAt Ha a2 s := ka _ _ w2 np2
        refine ⟨_, rfl, _, rfl, a2, _, rfl, .inl (SqL.of w2a), rfl, strs_flat s, _, rfl, ?_⟩
        show if inV (.str x) (s.map V.str) = true then _ else _
        rw [inV_str]
        by_cases c1 : x ∈ s
        · rw [decide_eq_true c1]
          refine iteT ⟨_, rfl, _, rfl, a1, _, rfl, .inl (SqL.of w1a), rfl, strs_flat h, _, rfl, ?_⟩
          show if inV (.str x) (h.map V.str) = true then _ else _
          rw [inV_str]
          by_cases c2 : x ∈ h
          · rw [decide_eq_true c2]
            exact iteT (iteT ⟨_, rfl, yes _ (Kp.refl _ _) (Bm.le (by omega)) c1⟩)
          · rw [decide_eq_false c2]
            refine iteF ⟨_, rfl, ?_⟩
            refine take_of (z := 2) Bm (by decide) (by decide) (by omega) fun rb Hb rb0 rb1 Bb kb => ?_
            refine ⟨rfl, _, rfl, ?_⟩
            refine ite2 (fun _ => ⟨_, rfl, yes _ kb Bb c1⟩) (fun _ => no _ kb Bb fun z => c2 z.2)
        · rw [decide_eq_false c1]
          exact iteF (no _ (Kp.refl _ _) (Bm.le (by omega)) fun z => c1 z.1)
      have npr : Dr ≠ p := (B8.ne nDr).symm
      refine ⟨_, rfl, _, rfl, _, rfl, _, rfl, by show 4 ≤ sizeLine; decide, fun t nt => ?_⟩
      generalize hE10 : upd H9 t _ = H10
      have wt := new_at hE10
      have s10 := new_same hE10 nt
      have hh : ∀ x ∈ h, x ∈ us.map (·.1) := fun x hx => hfit.1 x (by simp only [List.mem_append]; exact .inl (.inl (.inl hx)))
      have fit' : Fits us ⟨h, stood, o, l⟩ := fits_stood hfit (fun x hx => (rsub x hx).2) fun x hx hxs => rmust x ((wmem x).mpr (hh x hx)) ⟨hxs, hx⟩
      have k09 := k8.trans k9
      exact q t a1 Dr a3 a4 ⟨h, stood, o, l⟩ H10 ((B9.same s10).le (by omega)) (k09.same s10) ((hF8.keepB k9 B8).same s10) (k09.free nt (B9.ne nt).symm) wt (s10 _ _ (k9 _ _ w1 np1)) (s10 _ _ wDr) (s10 _ _ (k9 _ _ w3 np3)) (s10 _ _ (k9 _ _ w4 np4)) np1 npr np3 np4 fit' rnd

-- SPLIT
/-! ### as it is due -/
/-- four rows of names -/
def Rows4 (H : Hp) (l : Addr) (s : SF) : Prop := ∃ a1 a2 a3 a4 : Addr, H l = some (.lst [.ref a1, .ref a2, .ref a3, .ref a4]) ∧ SAt H a1 s.wished ∧ SAt H a2 s.up ∧ SAt H a3 s.later ∧ SAt H a4 s.back
open Classical in
def sp_law_due (K : PySem.W.Frag) : Sp := fun vs H Q _ => ∃ (d l : Addr) (us : List (Str × UF)) (s : SF), vs = [.ref d, .ref l] ∧ LF K H d us ∧ NBr us ∧ Rows4 H l s ∧ SFew s ∧ SStr s ∧ s.wished.Nodup ∧
  ∀ H', Same H H' → Q (.bl (decide (Fits us s))) H'
open Classical in
theorem ok_law_due (T : Txt K mg) : FnOk P w K mg base CX0 9 (He.fAd K ("_law_due", none)) T.d_law_due ["_law_facts_here", "_law_rows"] (sp_law_due K) := by
  refine T.F_law_due.ok sc_law_due (fun vs H Q E h => ?_) (fun cdv A outer s H vs Q E hr h => ?_)
  · obtain ⟨d, l, us, s, rfl, _⟩ := h
    rfl
  · obtain ⟨d, l, us, s, rfl, hF, hB, hR, few, hok, hwn, q⟩ := h
    refine ⟨_, PSs.nox (pss_cons (ps_asg (pv 1) (pg_lst rfl (pgs_cons (pg_name (i := 2) sc_law_due.nd rfl (Or.inr rfl)) (pgs_cons (pg_name (i := 3) sc_law_due.nd rfl (Or.inr rfl)) (pgs_cons (pg_name (i := 4) sc_law_due.nd rfl (Or.inl rfl)) (pgs_cons (pg_name (i := 5) sc_law_due.nd rfl (Or.inl rfl)) pgs_nil))))))
      (pss_cons (ps_set (i := 6) sc_law_due.nd rfl (Or.inr rfl) (pe_op op_cat (pe_op op_cat (pv 2) (pv 4)) (pv 5)))
      (pss_cons (ps_if (pt_mid (PW.pt (pw_or (pt_not (pt_val (pe_callB (id := "all")  (cr_all rfl) (by rfl) T.n_all (by decide +kernel) (pa_cons (pe_lc (own := [("_law_one", 8)]) (by rfl) sc_law_due.nd (pi_list (pe_op op_cat (pv 6) (pv 3))) (blkOk_by (own := [("_law_one", 8)]) (N := N_law_due) (sc := defScope s_law_due) (by decide +kernel)) (fun _ _ _ _ _ => (pg_name (i := 8) sc_law_due.nd rfl (Or.inl rfl))) (fun _ _ _ _ _ => pts_nil) (fun _ _ _ _ _ => (pe_cmp (pc_din (hu_of hr) (pv 8) (pv 0))))) pa_nil)))) (pw_or1 (pt_cmpR op_ne (pe_callB (id := "len")  UP.cr_lenTx (by rfl) T.n_len (by decide +kernel) (pa_cons (pe_callTy (T := "set")  (UP.cr_setTx rfl) (by rfl) T.n_set (by decide +kernel) (pa_cons (pv 6) pa_nil)) pa_nil)) (pe_callB (id := "len")  call_len_seq (by rfl) T.n_len (by decide +kernel) (pa_cons (pv 6) pa_nil)) (nomark _))))))
      (pss_one (ps_ret pe_bl))
      pss_nil)
      (pss_cons (ps_for PassesOwn.never rfl (pi_list (pe_op op_cat (pv 2) (pv 4))) (pg_name (i := 7) sc_law_due.nd rfl (Or.inl rfl))
      (pss_one (ps_if (pt_mid (PW.pt (pw_or (pt_not (pt_val (pe_callB (id := "all")  (cr_all rfl) (by rfl) T.n_all (by decide +kernel) (pa_cons (pe_lc (own := [("_law_one", 8)]) (by rfl) sc_law_due.nd (pi_tup (pe_ix ix_tup (pe_dget (hu_of hr) (pv 0) (pv 7) (fun _ _ => rfl)) pe_int (fun _ _ => rfl))) (blkOk_by (own := [("_law_one", 8)]) (N := N_law_due) (sc := defScope s_law_due) (by decide +kernel)) (fun _ _ _ _ _ => (pg_name (i := 8) sc_law_due.nd rfl (Or.inl rfl))) (fun _ _ _ _ _ => pts_nil) (fun _ _ _ _ _ => (pe_cmpR (r := rIn K false) op_in_seq (pv 8) (pv 2) (by rfl)))) pa_nil)))) (pw_or1 (pt_val (pe_callB (id := "any")  (cr_any rfl) (by rfl) T.n_any (by decide +kernel) (pa_cons (pe_lc (own := [("_law_one", 8)]) (by rfl) sc_law_due.nd (pi_list (pe_call (ok_law_barred T) (hr.mono (by decide)) (by rfl) T.m_law_barred T.F_law_barred.kp T.b_law_barred .nil pass0 (pa_cons (pv 0) (pa_cons (pv 7) pa_nil)))) (blkOk_by (own := [("_law_one", 8)]) (N := N_law_due) (sc := defScope s_law_due) (by decide +kernel)) (fun _ _ _ _ _ => (pg_name (i := 8) sc_law_due.nd rfl (Or.inl rfl))) (fun _ _ _ _ _ => pts_nil) (fun _ _ _ _ _ => (pe_cmpR (r := rIn K false) op_in_seq (pv 8) (pv 6) (by rfl)))) pa_nil)))))))
      (pss_one (ps_ret pe_bl))
      pss_nil)))
      (pss_one (ps_ret (pe_cmpR (op_eqD hr.units) (pe_call (ok_law_knotted T) (hr.mono (by decide)) (by rfl) T.m_law_knotted T.F_law_knotted.kp T.b_law_knotted .nil pass0 (pa_cons (pv 0) (pa_cons (pe_lc (own := [("_law_one", 8)]) (by rfl) sc_law_due.nd (pi_list (pv 2)) (blkOk_by (own := [("_law_one", 8)]) (N := N_law_due) (sc := defScope s_law_due) (by decide +kernel)) (fun _ _ _ _ _ => (pg_name (i := 8) sc_law_due.nd rfl (Or.inl rfl))) (fun _ _ _ _ _ => (pts_one (pt_cmpR (r := rIn K true) op_notIn_seq (pv 8) (pv 3) (by rfl)))) (fun _ _ _ _ _ => (pv 8))) pa_nil))) (pe_lst pa_nil) (nomark _)))))))), ?_⟩
    obtain ⟨a1, a2, a3, a4, wl, w1, w2, w3, w4⟩ := hR
    obtain ⟨f1, f2, f3, f4⟩ := few
    have hN := hF.nms
    refine ⟨_, rfl, l, _, rfl, SqL.of wl, rfl, _, _, rfl, _, _, rfl, _, _, rfl, _, _, rfl, rfl, ?_⟩
    -- every
    refine ⟨_, rfl, _, rfl, a1, a3, _, _, rfl, rfl, w1, w3, by rw [List.length_map, List.length_map]; exact Nat.le_of_lt (small1000 (by omega)), fun c1 n1 => ?_⟩
    rw [← List.map_append]
    generalize hE1 : upd H c1 _ = H1
    have wc1 : SAt H1 c1 (s.wished ++ s.later) := new_at hE1
    have s1 := new_same hE1 n1
    refine ⟨_, rfl, c1, a4, _, _, rfl, rfl, wc1, s1 _ _ w4, by rw [List.length_map, List.length_map, List.length_append]; exact Nat.le_of_lt (small1000 (by omega)), fun ev n2 => ?_⟩
    rw [← List.map_append]
    obtain ⟨every, hevery⟩ : ∃ xs, s.wished ++ s.later ++ s.back = xs := ⟨_, rfl⟩
    rw [hevery]
    have evl : every.length ≤ 120 := by
      rw [← hevery, List.length_append, List.length_append]
      omega
    generalize hE2 : upd H1 ev _ = H2
    have wev : SAt H2 ev every := new_at hE2
    have s12 := new_same hE2 n2
    have s02 := s1.trans s12
    have hF2 := hF.same s02
    obtain ⟨kvs, hd2, htb⟩ := hF2.ex
    have w1b : SAt H2 a1 s.wished := s02 _ _ w1
    have w2b : SAt H2 a2 s.up := s02 _ _ w2
    have w3b : SAt H2 a3 s.later := s02 _ _ w3
    have hperm : (∀ x ∈ every ++ s.up, x ∈ us.map (·.1)) ↔ ∀ x ∈ s.wished ++ s.up ++ s.later ++ s.back, x ∈ us.map (·.1) := by
      rw [← hevery]
      simp only [List.mem_append]
      exact ⟨fun h x hx => h x (by rcases hx with ((hx | hx) | hx) | hx <;> simp [hx]), fun h x hx => h x (by rcases hx with ((hx | hx) | hx) | hx <;> simp [hx])⟩
    have no : ∀ {H' : Hp}, Same H2 H' → ¬ Fits us s → Q (.bl false) H' := fun e z => by
      have := q _ (s02.trans e)
      rw [decide_eq_false z] at this
      exact this
    refine ⟨fun b H' => Same H2 H' ∧ b = !decide ((∀ x ∈ every ++ s.up, x ∈ us.map (·.1)) ∧ every.Nodup), ?_, ?_⟩
    · refine ⟨_, rfl, _, rfl, ev, a2, _, _, rfl, rfl, wev, w2b, by rw [List.length_map, List.length_map]; exact Nat.le_of_lt (small1000 (by omega)), fun c3 n3 => ?_⟩
      rw [← List.map_append]
      obtain ⟨all, hall⟩ : ∃ xs, every ++ s.up = xs := ⟨_, rfl⟩
      have alen : all.length ≤ 160 := by
        rw [← hall, List.length_append]
        omega
      rw [hall]
      generalize hE3 : upd H2 c3 _ = H3
      have wc3 : SAt H3 c3 all := new_at hE3
      have s3 := new_same hE3 n3
      refine ⟨c3, rfl, ⟨_, SqL.of wc3⟩, fun D nD => lc_list (K := K) (a := c3) (xs := all.map V.str) (fun i H' => Same H3 H' ∧ H' D = some (.lst (((all.take i).map fun x => decide (x ∈ us.map (·.1))).map V.bl))) ⟨same_upd nD, upd_same⟩ (fun i H' _ h => SqL.of (h.1 _ _ wc3)) ?_ ?_⟩
      · rintro i x H4 hi ⟨s4, w4'⟩
        obtain ⟨o, ho, rfl⟩ := map_str_get hi
        refine ⟨rfl, yes_of (iteT ⟨_, rfl, _, rfl, d, _, rfl, DGet.k (k := Sum.inr o) (s4 _ _ (s3 _ _ hd2)), ?_⟩)⟩
        refine ⟨_, w4', ?_, Same.own (q := D) (H1 := H4) s4 (mut_keep rfl) nD, ?_⟩
        · rw [List.length_map, List.length_map]
          exact Nat.lt_of_le_of_lt (List.length_take_le' ..) (small1000 (by omega))
        · rw [upd_same, take_snoc ho, List.map_append, List.map_append, hN.val htb o]
          rfl
      · rintro H4 ⟨s4, w4'⟩
        rw [List.length_map, List.take_length] at w4'
        refine ⟨D, _, rfl, SqL.of w4', _, rfl, ?_⟩
        rw [all_dec]
        by_cases c : ∀ x ∈ all, x ∈ us.map (·.1)
        · rw [decide_eq_true c]
          have s24 := s3.trans s4
          refine iteF ⟨_, rfl, ev, every, rfl, SqL.of (s24 _ _ wev), by omega, fun p4 ds n4 dn dm => ?_⟩
          generalize hE5 : upd H4 p4 _ = H5
          have w5 := new_at hE5
          have s5 := new_same hE5 n4
          have dl : ds.length ≤ every.length := nodup_le ds every dn fun x hx => (dm x).mp hx
          refine ⟨p4, _, _, rfl, w5, by omega, _, rfl, ev, _, rfl, .inl (SqL.of (s5 _ _ (s24 _ _ wev))), rfl, _, rfl, s24.trans s5, ?_⟩
          rw [List.length_map]
          by_cases c2 : every.Nodup
          · rw [(len_nodup dn dm).mpr c2, decide_eq_true rfl, decide_eq_true ⟨c, c2⟩]
          · rw [decide_eq_false (show ¬ V.int (ds.length : Int) = V.int (every.length : Int) from fun z => c2 ((len_nodup dn dm).mp (by injection z with z; exact (Int.ofNat.inj z).symm))), decide_eq_false fun z => c2 z.2]
        · rw [decide_eq_false c]
          refine iteT ⟨s3.trans s4, ?_⟩
          rw [decide_eq_false fun z => c z.1]
          rfl
    rintro b H3 ⟨s3, rfl⟩
    by_cases c1 : (∀ x ∈ every ++ s.up, x ∈ us.map (·.1)) ∧ every.Nodup
    · rw [decide_eq_true c1]
      refine iteF ?_
      have hin4 := hperm.mp c1.1
      have hin : ∀ x ∈ s.wished ++ s.later, x ∈ us.map (·.1) := fun x hx => c1.1 x (List.mem_append_left _ (by rw [← hevery]; exact List.mem_append_left _ hx))
      -- for word in hoped + owed
      refine ⟨_, rfl, _, rfl, a1, a3, _, _, rfl, rfl, s3 _ _ w1b, s3 _ _ w3b, by rw [List.length_map, List.length_map]; exact Nat.le_of_lt (small1000 (by omega)), fun c4 n4 => ?_⟩
      rw [← List.map_append]
      obtain ⟨ho, hho⟩ : ∃ xs, s.wished ++ s.later = xs := ⟨_, rfl⟩
      rw [hho]
      generalize hE4 : upd H3 c4 _ = H4
      have wc4 : SAt H4 c4 ho := new_at hE4
      have s4 := new_same hE4 n4
      have s24 := s3.trans s4
      refine ⟨c4, rfl, ⟨_, SqL.of wc4⟩, for_list (xs := ho.map V.str) (fun j σ H' => Same H4 H' ∧ (∀ x ∈ ho.take j, (∀ u, fu us x = some u → ∀ o ∈ u.needs, o ∈ s.wished) ∧ ∀ o ∈ br us x, o ∉ every) ∧ ∃ y7 y8, σ = [some (.ref d), some (.ref l), some (.ref a1), some (.ref a2), some (.ref a3), some (.ref a4), some (.ref ev), y7, y8]) ⟨Same.refl _, (fun x hx => nomatch hx), _, _, rfl⟩ (fun j σ H' _ h => SqL.of (h.1 _ _ wc4)) ?_ ?_⟩
      · rintro j xv σ H5 hj ⟨s5, hsofar, y7, y8, rfl⟩
        obtain ⟨word, hword, rfl⟩ := map_str_get hj
        have hwm : word ∈ ho := List.mem_of_getElem? hword
        have hwn' : word ∈ us.map (·.1) := hin word (by rw [hho]; exact hwm)
        obtain ⟨u, hfu, hu⟩ := fu_of hwn' hN.nd
        have s25 := s24.trans s5
        have hF5 := hF2.same s25
        obtain ⟨kv5, hd5, htb5⟩ := hF5.ex
        obtain ⟨v1, hv1, tt1, q1, q2, q3, q4, g1, rfl, wq0, wq1, _⟩ := htb5.get hN.nd (word, u) hu
        have hnl : u.needs.length ≤ 100 := (hF5.few _ hu).1
        have w1c : SAt H5 a1 s.wished := s25 _ _ w1b
        have wev5 : SAt H5 ev every := s25 _ _ wev
        refine ⟨fun b H' => Same H5 H' ∧ b = !decide ((∀ o ∈ u.needs, o ∈ s.wished) ∧ ∀ o ∈ br us word, o ∉ every), ?_, ?_⟩
        · refine ⟨_, rfl, _, rfl, d, .ref tt1, rfl, by rw [← hv1]; exact DGet.k (k := Sum.inr word) hd5, tt1, _, _, _, rfl, rfl, wq0, at1, q1, rfl, ⟨_, wq1⟩, fun D nD => lc_tup (K := K) (a := q1) (xs := u.needs.map V.str) (fun i H' => Same H5 H' ∧ H' D = some (.lst (((u.needs.take i).map fun x => decide (x ∈ s.wished)).map V.bl))) ⟨same_upd nD, upd_same⟩ (fun i H' _ h => tup_same h.1 wq1) ?_ ?_⟩
          · rintro i x H6 hi ⟨s6, w6⟩
            obtain ⟨o, ho2, rfl⟩ := map_str_get hi
            refine ⟨rfl, yes_of (iteT ⟨_, rfl, _, rfl, a1, _, rfl, .inl (SqL.of (s6 _ _ w1c)), rfl, strs_flat s.wished, ?_⟩)⟩
            refine ⟨_, w6, ?_, Same.own (q := D) (H1 := H6) s6 (mut_keep rfl) nD, ?_⟩
            · rw [List.length_map, List.length_map]
              exact Nat.lt_of_le_of_lt (List.length_take_le' ..) (small1000 (by omega))
            · rw [upd_same, take_snoc ho2, List.map_append, List.map_append]
              show some (HO.lst (_ ++ [V.bl (inV (.str o) (s.wished.map V.str))])) = _
              rw [inV_str]
              rfl
          · rintro H6 ⟨s6, w6⟩
            rw [List.length_map, List.take_length] at w6
            refine ⟨D, _, rfl, SqL.of w6, _, rfl, ?_⟩
            rw [all_dec]
            by_cases c : ∀ o ∈ u.needs, o ∈ s.wished
            · rw [decide_eq_true c]
              have s26 := s25.trans s6
              refine iteF ⟨_, rfl, _, rfl, d, word, us, rfl, hF2.same s26, hB, hwn', fun L H7 nL s7 wL => ?_⟩
              have s57 := s6.trans s7
              refine ⟨L, rfl, ⟨_, SqL.of wL⟩, fun D2 nD2 => lc_list (K := K) (a := L) (xs := (br us word).map V.str) (fun i H' => Same H7 H' ∧ H' D2 = some (.lst ((((br us word).take i).map fun x => decide (x ∈ every)).map V.bl))) ⟨same_upd nD2, upd_same⟩ (fun i H' _ h => SqL.of (h.1 _ _ wL)) ?_ ?_⟩
              · rintro i x H8 hi ⟨s8, w8⟩
                obtain ⟨o, ho2, rfl⟩ := map_str_get hi
                refine ⟨rfl, yes_of (iteT ⟨_, rfl, _, rfl, ev, _, rfl, .inl (SqL.of (s8 _ _ (s57 _ _ wev5))), rfl, strs_flat every, ?_⟩)⟩
                refine ⟨_, w8, ?_, Same.own (q := D2) (H1 := H8) s8 (mut_keep rfl) nD2, ?_⟩
                · rw [List.length_map, List.length_map]
                  exact Nat.lt_of_le_of_lt (List.length_take_le' ..) (Nat.lt_of_le_of_lt (filt_len hN _) (small1000 (by decide)))
                · rw [upd_same, take_snoc ho2, List.map_append, List.map_append]
                  show some (HO.lst (_ ++ [V.bl (inV (.str o) (every.map V.str))])) = _
                  rw [inV_str]
                  rfl
              · rintro H8 ⟨s8, w8⟩
                rw [List.length_map, List.take_length] at w8
                refine ⟨D2, _, rfl, SqL.of w8, _, rfl, s57.trans s8, ?_⟩
                have e1 : ((br us word).map fun x => decide (x ∈ every)).any id = !decide (∀ o ∈ br us word, o ∉ every) := by
                  rw [← all_dec (fun o => o ∉ every), List.any_map, List.all_map, List.not_all_eq_any_not]
                  congr 1
                  funext x
                  show decide (x ∈ every) = !decide (x ∉ every)
                  by_cases c : x ∈ every
                  · rw [decide_eq_true c, decide_eq_false fun z => z c]
                    rfl
                  · rw [decide_eq_false c, decide_eq_true c]
                    rfl
                rw [e1]
                exact congrArg (!·) (decide_eq_decide.mpr ⟨fun z => ⟨c, z⟩, fun z => z.2⟩)
            · rw [decide_eq_false c]
              refine iteT ⟨s6, ?_⟩
              rw [decide_eq_false fun z => c z.1]
              rfl
        · rintro b H6 ⟨s6, rfl⟩
          by_cases c : (∀ o ∈ u.needs, o ∈ s.wished) ∧ ∀ o ∈ br us word, o ∉ every
          · rw [decide_eq_true c]
            refine iteF ⟨s5.trans s6, fun x hx => ?_, _, _, rfl⟩
            rw [take_snoc hword] at hx
            rcases List.mem_append.mp hx with hx | hx
            · exact hsofar x hx
            · rw [List.mem_singleton.mp hx]
              exact ⟨fun u' hu' => by rw [hfu] at hu'; cases hu'; exact c.1, c.2⟩
          · rw [decide_eq_false c]
            refine iteT (no (s24.trans (s5.trans s6)) fun z => c ⟨fun o ho2 => z.2.2.1 word (by rw [hho]; exact hwm) u hfu o ho2, fun o ho2 => ?_⟩)
            have := z.2.2.2.1 word (by rw [hho]; exact hwm) o ho2
            rw [hevery] at this
            exact this
      · rintro σ H5 ⟨s5, hall, y7, y8, rfl⟩
        rw [List.length_map, List.take_length] at hall
        have s25 := s24.trans s5
        -- return knotted(..) == []
        have w1c : SAt H5 a1 s.wished := s25 _ _ w1b
        have w2c : SAt H5 a2 s.up := s25 _ _ w2b
        refine ⟨_, rfl, _, rfl, a1, rfl, ⟨_, SqL.of w1c⟩, fun Dk nDk => flt (K := K) (fun x => decide (x ∉ s.up)) nDk w1c (by omega) (fun x Ha P hx sa yes no => ?_) (fun H6 s6 w6 => ?_)⟩
        · refine ⟨rfl, _, rfl, _, rfl, a2, _, rfl, .inl (SqL.of (sa _ _ w2c)), rfl, strs_flat s.up, _, rfl, ?_⟩
          show if (if true = true then !inV (.str x) (s.up.map V.str) else _) = true then _ else _
          rw [if_pos rfl, inV_str]
          by_cases c : x ∈ s.up
          · rw [decide_eq_true c]
            exact iteF (no _ (Same.refl _) (decide_eq_false fun z => z c))
          · rw [decide_eq_false c]
            exact iteT ⟨_, rfl, yes _ (Same.refl _) (decide_eq_true c)⟩
        have hopen : ∀ x ∈ openL s, x ∈ us.map (·.1) := fun x hx => hin x (List.mem_append_left _ (List.mem_filter.mp hx).1)
        have olen : (openL s).length ≤ 16 := Nat.le_trans (nodup_le _ _ (hwn.filter _) hopen) hN.len
        refine ⟨d, Dk, us, openL s, rfl, hF2.same (s25.trans s6), w6, olen, hopen, fun left Dz H7 s7 nDz w7 lok hleft => ⟨by show 0 ≤ sizeLine; decide, fun e ne => ?_⟩⟩
        generalize hE8 : upd H7 e _ = H8
        have w8 : H8 e = some (.lst (([] : List Str).map V.str)) := new_at hE8
        have s8 := new_same hE8 ne
        refine eqD_strsL (SqL.of (s8 _ _ w7)) (SqL.of w8) lok (fun y hy => nomatch hy) ?_
        have hval : decide (left = []) = decide (Fits us s) := decide_eq_decide.mpr ⟨fun z => ⟨hin4, by rw [hevery]; exact c1.2, fun x hx u hu o ho2 => (hall x (by rw [← hho]; exact hx)).1 u hu o ho2, fun x hx o ho2 => by rw [hevery]; exact (hall x (by rw [← hho]; exact hx)).2 o ho2, hleft.mp z⟩, fun z => hleft.mpr z.2.2.2.2⟩
        rw [hval]
        exact q H8 (s02.trans ((s25.trans s6).trans (s7.trans s8)))
    · rw [decide_eq_false c1]
      exact iteT (no s3 fun z => c1 ⟨hperm.mpr z.1, by rw [← hevery]; exact z.2.1⟩)

-- SPLIT
/-! ### right -/
def sp_law_right (K : PySem.W.Frag) : Sp := fun vs H Q _ => ∃ (d x l : Addr) (us : List (Str × UF)) (s : SF), vs = [.ref d, .ref x, .ref l] ∧ LF K H d us ∧ NBr us ∧ ShelfAt K H x us ∧ (∀ w, w ∉ wt us w) ∧ Rows4 H l s ∧ SFew s ∧ SStr s ∧ s.wished.Nodup ∧
  ∀ H', Same H H' → Q (.bl true) H'
theorem ok_law_right (T : Txt K mg) : FnOk P w K mg base CX0 11 (He.fAd K ("_law_right", none)) T.d_law_right ["_law_facts_here", "_law_made", "_law_rows"] (sp_law_right K) := by
  refine T.F_law_right.ok sc_law_right (fun vs H Q E h => ?_) (fun cdv A outer s H vs Q E hr h => ?_)
  · obtain ⟨d, x, l, us, s, rfl, _⟩ := h
    rfl
  · obtain ⟨d, x, l, us, s, rfl, hF, hB, hS, hself, hR, few, hok, hwn, q⟩ := h
    refine ⟨_, PSs.nox (pss_cons (ps_set (i := 3) sc_law_right.nd rfl (Or.inl rfl) (pe_makeK0 T.mk_Stand (ok_Stand_init T) (hr.mono (by decide)) (by rfl) T.m_Stand T.kb_Stand_init_1_wished_up_later_back.choose_spec pass0 (pk_cons (pe_callTy (T := "tuple")  call_tuple_of (by rfl) T.n_tuple (by decide +kernel) (pa_cons (pe_ix ix_list (pv 2) pe_int (fun _ _ => rfl)) pa_nil)) (pk_cons (pe_callTy (T := "tuple")  call_tuple_of (by rfl) T.n_tuple (by decide +kernel) (pa_cons (pe_ix ix_list (pv 2) pe_int (fun _ _ => rfl)) pa_nil)) (pk_cons (pe_callTy (T := "tuple")  call_tuple_of (by rfl) T.n_tuple (by decide +kernel) (pa_cons (pe_ix ix_list (pv 2) pe_int (fun _ _ => rfl)) pa_nil)) (pk_cons (pe_callTy (T := "tuple")  call_tuple_of (by rfl) T.n_tuple (by decide +kernel) (pa_cons (pe_ix ix_list (pv 2) pe_int (fun _ _ => rfl)) pa_nil)) pk_nil))))))
      (pss_cons (ps_set (i := 4) sc_law_right.nd rfl (Or.inl rfl) (pe_call (ok_fits T) (hr.mono (by decide)) (by rfl) T.m_fits T.F_fits.kp T.b_fits .nil pass0 (pa_cons (pv 1) (pa_cons (pv 3) pa_nil))))
      (pss_one (ps_ret (pe_mid (pe_and (pe_callB (id := "isinstance")  call_isi (by rfl) T.n_isinstance (by decide +kernel) (pa_cons (pv 4) (pa_cons (pe_bltn (v := .ty "bool") (u := .type "bool") (by rfl) T.n_bool (by decide +kernel) rfl) pa_nil))) (pe_and (pe_cmpR op_eq (pv 4) (pe_call (ok_law_due T) (hr.mono (by decide)) (by rfl) T.m_law_due T.F_law_due.kp T.b_law_due .nil pass0 (pa_cons (pv 0) (pa_cons (pv 2) pa_nil))) (nomark _)) (pe_one (pe_cmpR op_eq (pe_callN0 (ok_fits T) (hr.mono (by decide)) (by rfl) T.m_fits T.F_fits.kp T.kb_fits_0_stand_shelf.choose_spec pass0 (pk_cons (pv 3) (pk_cons (pv 1) pk_nil))) (pv 4) (nomark _)))))))))), ?_⟩
    obtain ⟨a1, a2, a3, a4, wl, w1, w2, w3, w4⟩ := id hR
    obtain ⟨f1, f2, f3, f4⟩ := id few
    have hN := hF.nms
    refine ⟨_, rfl, l, _, _, _, rfl, rfl, SqL.of wl, at0, a1, _, rfl, .inl ⟨SqL.of w1, fun t1 n1 => ?_⟩⟩
    generalize hE1 : upd H t1 _ = H1
    have x1 : H1 t1 = some (.tup (s.wished.map V.str)) := new_at hE1
    have s1 := new_same hE1 n1
    refine ⟨_, rfl, l, _, _, _, rfl, rfl, SqL.of (s1 _ _ wl), at1, a2, _, rfl, .inl ⟨SqL.of (s1 _ _ w2), fun t2 n2 => ?_⟩⟩
    generalize hE2 : upd H1 t2 _ = H2
    have x2 : H2 t2 = some (.tup (s.up.map V.str)) := new_at hE2
    have s2 := new_same hE2 n2
    have s02 := s1.trans s2
    refine ⟨_, rfl, l, _, _, _, rfl, rfl, SqL.of (s02 _ _ wl), at2, a3, _, rfl, .inl ⟨SqL.of (s02 _ _ w3), fun t3 n3 => ?_⟩⟩
    generalize hE3 : upd H2 t3 _ = H3
    have x3 : H3 t3 = some (.tup (s.later.map V.str)) := new_at hE3
    have s3 := new_same hE3 n3
    have s03 := s02.trans s3
    refine ⟨_, rfl, l, _, _, _, rfl, rfl, SqL.of (s03 _ _ wl), at3, a4, _, rfl, .inl ⟨SqL.of (s03 _ _ w4), fun t4 n4 => ?_⟩⟩
    generalize hE4 : upd H3 t4 _ = H4
    have x4 : H4 t4 = some (.tup (s.back.map V.str)) := new_at hE4
    have s4 := new_same hE4 n4
    have s04 := s03.trans s4
    refine ⟨rfl, rfl, fun p dx np nd ne => ?_⟩
    refine ⟨p, dx, _, _, _, _, rfl, upd_same, fun H5 wp kp => ⟨rfl, ?_⟩⟩
    have s5 : Same H4 H5 := Same.made np nd fun b o e n => kp b o e n
    have s05 := s04.trans s5
    have hC : StandAt K H5 p s := ⟨dx, t1, t2, t3, t4, wp, SqT.of (s5 _ _ (s4 _ _ (s3 _ _ (s2 _ _ x1)))), SqT.of (s5 _ _ (s4 _ _ (s3 _ _ x2))), SqT.of (s5 _ _ (s4 _ _ x3)), SqT.of (s5 _ _ x4)⟩
    have few1 : ∀ q ∈ us, q.2.needs.length ≤ 100 := fun q hq => (hF.few q hq).1
    have keepR : ∀ {Ha Hb : Hp}, Same Ha Hb → Rows4 Ha l s → Rows4 Hb l s := fun e h => by
      obtain ⟨a1, a2, a3, a4, h0, h1, h2, h3, h4⟩ := h
      exact ⟨a1, a2, a3, a4, e _ _ h0, e _ _ h1, e _ _ h2, e _ _ h3, e _ _ h4⟩
    refine ⟨_, rfl, _, rfl, x, p, us, s, rfl, hS.same s05, hN, few1, hself, hC, few, hwn, fun H6 s6 => ?_⟩
    have s06 := s05.trans s6
    refine ⟨fun v H' => Same H6 H' ∧ v = .bl true, ?_, fun v H' hv => by rw [hv.2]; exact q H' (s06.trans hv.1)⟩
    refine ⟨_, rfl, _, _, _, _, true, rfl, .ty "bool", .base (.bl _), kit_ty (by decide +kernel), _, rfl, iteT ?_⟩
    refine ⟨_, rfl, _, rfl, _, rfl, d, l, us, s, rfl, hF.same s06, hB, keepR s06 hR, few, hok, hwn, fun H7 s7 => ?_⟩
    refine ⟨rfl, _, rfl, ?_⟩
    rw [decide_eq_true rfl]
    have s57 := s6.trans s7
    refine iteT ⟨_, rfl, _, rfl, rfl, rfl, x, p, us, s, rfl, hS.same (s05.trans s57), hN, few1, hself, hC.same s57, few, hwn, fun H8 s8 => ?_⟩
    exact ⟨_, rfl, rfl, s7.trans s8, by rw [decide_eq_true rfl]⟩
-- SPLIT
/-! ### bent -/
def sp_law_bent (K : PySem.W.Frag) : Sp := fun vs H Q _ => ∃ (p d l : Addr) (n m : Nat) (us : List (Str × UF)) (rs : List (Addr × List Str)), vs = [.ref p, .ref d, .ref l] ∧ Bag n H p ∧ n < 600000000 ∧ LF K H d us ∧ 0 < us.length ∧ l ≠ p ∧ H l = some (.lst (rs.map fun r => V.ref r.1)) ∧ rs.length = 4 ∧ (∀ r ∈ rs, SAt H r.1 r.2 ∧ r.1 ≠ p ∧ r.2.Nodup ∧ r.2.length ≤ m ∧ ∀ y ∈ r.2, PyData.strOk y = true) ∧ m ≤ 30 ∧
  ∀ (l' : Addr) (rs' : List (Addr × List Str)) H', H l' = none → l' ≠ p → Bag (n + 10) H' p → Kp p H H' → H' l' = some (.lst (rs'.map fun r => V.ref r.1)) → rs'.length = 4 → (∀ r ∈ rs', SAt H' r.1 r.2 ∧ r.1 ≠ p ∧ r.2.Nodup ∧ r.2.length ≤ m + 1 ∧ ∀ y ∈ r.2, PyData.strOk y = true) → Q (.ref l') H'
theorem ok_law_bent (T : Txt K mg) : FnOk P w K mg base CX0 7 (He.fAd K ("_law_bent", none)) T.d_law_bent ["_law_bag_here", "_law_facts_here", "_law_rows"] (sp_law_bent K) := by
  refine T.F_law_bent.ok sc_law_bent (fun vs H Q E h => ?_) (fun cdv A outer s H vs Q E hr h => ?_)
  · obtain ⟨p, d, l, n, m, us, rs, rfl, _⟩ := h
    rfl
  · obtain ⟨p, d, l, n, m, us, rs, rfl, B, hn, hF, hu0, nlp, wl, rl, hrs, hm, q⟩ := h
    refine ⟨_, PSs.nox (pss_cons (ps_setLc (i := 3) (own := [("_law_row", 9)]) (by rfl) sc_law_bent.nd rfl rfl (sw_true rfl rfl rfl (by decide +kernel)) (pi_list (pv 2)) (blkOk_by (own := [("_law_row", 9)]) (N := N_law_bent) (sc := defScope s_law_bent) (by decide +kernel)) (fun _ _ _ _ _ => (pg_name (i := 9) sc_law_bent.nd rfl (Or.inl rfl))) (fun _ _ _ _ _ => pts_nil) (fun _ _ _ _ _ => (pe_callTy (T := "list")  (r := Evl.rListS K) call_list_of (by rfl) T.n_list (by decide +kernel) (pa_cons (pv 9) pa_nil))))
      (pss_cons (ps_set (i := 4) sc_law_bent.nd rfl (Or.inl rfl) (pe_op op_cat (pe_callB (id := "sorted")  (call_sortedD rfl) (by rfl) T.n_sorted (by decide +kernel) (pa_cons (pv 1) pa_nil)) (pe_lst (pa_cons (pe_ix ix_list (pe_lc (own := [("_law_one", 10)]) (by rfl) sc_law_bent.nd (pi_str pe_str) (blkOk_by (own := [("_law_one", 10)]) (N := N_law_bent) (sc := defScope s_law_bent) (by decide +kernel)) (fun _ _ _ _ _ => (pg_name (i := 10) sc_law_bent.nd rfl (Or.inl rfl))) (fun _ _ _ _ _ => (pts_one (pt_cmp (pc_dnotin (hu_of hr) (pe_op op_add_str (pv 10) pe_str) (pv 1))))) (fun _ _ _ _ _ => (pe_op op_add_str (pv 10) pe_str))) pe_int (fun _ _ => rfl)) pa_nil))))
      (pss_cons (ps_par3 (by rfl) sc_law_bent.nd (i := 5) (j := 6) (l := 7) rfl rfl rfl (by decide) (by decide) (by decide) rfl rfl rfl (pa_cons (pe_call (ok_law_take T) (hr.mono (by decide)) (by rfl) T.m_law_take T.F_law_take.kp T.b_law_take .nil pass0 (pa_cons (pv 0) (pa_cons pe_int pa_nil))) (pa_cons (pe_call (ok_law_take T) (hr.mono (by decide)) (by rfl) T.m_law_take T.F_law_take.kp T.b_law_take .nil pass0 (pa_cons (pv 0) (pa_cons pe_int pa_nil))) (pa_cons (pe_call (ok_law_take T) (hr.mono (by decide)) (by rfl) T.m_law_take T.F_law_take.kp T.b_law_take .nil pass0 (pa_cons (pv 0) (pa_cons pe_int pa_nil))) pa_nil))) (by rfl))
      (pss_cons (ps_set (i := 8) sc_law_bent.nd rfl (Or.inl rfl) (pe_ix ix_list (pv 4) (pe_call (ok_law_take T) (hr.mono (by decide)) (by rfl) T.m_law_take T.F_law_take.kp T.b_law_take .nil pass0 (pa_cons (pv 0) (pa_cons (pe_op op_sub (pe_callB (id := "len")  call_len_seq (by rfl) T.n_len (by decide +kernel) (pa_cons (pv 4) pa_nil)) (pe_callTy (T := "int")  call_int1 (by rfl) T.n_int (by decide +kernel) (pa_cons (pe_cmpR op_gt (pe_call (ok_law_take T) (hr.mono (by decide)) (by rfl) T.m_law_take T.F_law_take.kp T.b_law_take .nil pass0 (pa_cons (pv 0) (pa_cons pe_int pa_nil))) pe_int (nomark _)) pa_nil))) pa_nil))) (fun _ _ => rfl)))
      (pss_mid (ps_if (PW.pt (pw_and (pt_cmpR op_eq (pv 5) pe_int (nomark _)) (pw_and1 (pt_cmpR (op_neD hr.units) (pe_ix ix_list (pv 3) (pv 6) (fun _ _ => rfl)) (pe_lst pa_nil) (nomark _)))))
      (pss_one (ps_expr (pe_bm PySem.F.plainAttrs_list PySem.F.slot_list_pop PySem.F.type_list_pop mt_popAt (pe_ix ix_list (pv 3) (pv 6) (fun _ _ => rfl)) (pa_cons (pe_call (ok_law_take T) (hr.mono (by decide)) (by rfl) T.m_law_take T.F_law_take.kp T.b_law_take .nil pass0 (pa_cons (pv 0) (pa_cons (pe_callB (id := "len")  call_len_seq (by rfl) T.n_len (by decide +kernel) (pa_cons (pe_ix ix_list (pv 3) (pv 6) (fun _ _ => rfl)) pa_nil)) pa_nil))) pa_nil))))
      (pss_one (ps_if (pt_cmpR op_eq (pv 5) pe_int (nomark _))
      (pss_one (ps_asg (pe_tup (pa_cons (pe_ix ix_list (pv 3) (pv 7) (fun _ _ => rfl)) (pa_cons (pe_ix ix_list (pv 3) (pv 6) (fun _ _ => rfl)) pa_nil))) (pg_tup rfl (pgs_cons (pg_sub (pv 3) (pv 6) set_list) (pgs_cons (pg_sub (pv 3) (pv 7) set_list) pgs_nil)))))
      (pss_one (ps_if (pt_cmpR op_notIn_seq (pv 8) (pe_ix ix_list (pv 3) (pv 6) (fun _ _ => rfl)) (by rfl))
      (pss_one (ps_asg (pe_callB (id := "sorted")  cr_sortedS (by rfl) T.n_sorted (by decide +kernel) (pa_cons (pe_op op_cat (pe_ix ix_list (pv 3) (pv 6) (fun _ _ => rfl)) (pe_lst (pa_cons (pv 8) pa_nil))) pa_nil)) (pg_sub (pv 3) (pv 6) set_list)))
      pss_nil)))))
      (pss_one (ps_ret (pv 3)))))))), ?_⟩
    have hN := hF.nms
    have hul := hN.len
    rw [List.length_map] at hul
    -- found = [list(row) for row in rows]
    refine ⟨_, rfl, l, rfl, ⟨_, SqL.of wl⟩, fun D nD => ?_⟩
    have npD : p ≠ D := B.ne nD
    refine lc_list (K := K) (a := l) (xs := rs.map fun r => V.ref r.1) (fun i H' => Same H H' ∧ ∃ ts : List (Addr × List Str), H' D = some (.lst (ts.map fun r => V.ref r.1)) ∧ ts.map (·.2) = (rs.take i).map (·.2) ∧ (ts.map (·.1)).Nodup ∧ ∀ r ∈ ts, SAt H' r.1 r.2 ∧ H r.1 = none ∧ r.1 ≠ D) ⟨same_upd nD, [], upd_same, rfl, List.nodup_nil, fun r hr => nomatch hr⟩ (fun i H' _ h => SqL.of (h.1 _ _ wl)) ?_ ?_
    · rintro i v H1 hv ⟨s1, ts, w1, e1, n1, t1⟩
      rw [List.getElem?_map] at hv
      obtain ⟨r, hr, rfl⟩ := Option.map_eq_some_iff.mp hv
      have hi4 : i < 4 := by
        have := (List.getElem?_eq_some_iff.mp hr).1
        omega
      obtain ⟨ra, _⟩ := hrs r (List.mem_of_getElem? hr)
      have tl : ts.length = i := by
        have := congrArg List.length e1
        rw [List.length_map, List.length_map, List.length_take] at this
        omega
      refine ⟨rfl, yes_of (iteT ⟨_, rfl, r.1, _, rfl, .inl (SqL.of (s1 _ _ ra)), fun e ne => ?_⟩)⟩
      generalize hE2 : upd H1 e _ = H2
      have w2 : SAt H2 e r.2 := new_at hE2
      have s2 := new_same hE2 ne
      have neD : e ≠ D := (ne_some w1 ne).symm
      refine ⟨_, s2 _ _ w1, by rw [List.length_map]; exact small1000 (by omega), Same.own (q := D) (H1 := H2) (s1.trans s2) (mut_keep rfl) nD, ts ++ [(e, r.2)], by rw [upd_same, List.map_append]; rfl, by rw [List.map_append, e1, take_snoc hr, List.map_append]; rfl, ?_, fun z hz => ?_⟩
      · rw [List.map_append]
        refine snoc_nodup n1 fun z => ?_
        obtain ⟨y, hy, ey⟩ := List.mem_map.mp z
        have := (t1 y hy).1
        unfold SAt at this
        rw [ey, ne] at this
        cases this
      · rcases List.mem_append.mp hz with hz | hz
        · obtain ⟨z1, z2, z3⟩ := t1 z hz
          exact ⟨mut_keep rfl _ _ (s2 _ _ z1) z3, z2, z3⟩
        · rw [List.mem_singleton.mp hz]
          exact ⟨mut_keep rfl _ _ w2 neD, s1.free ne, neD⟩
    rintro H1 ⟨s1, ts, w1, e1, n1, t1⟩
    rw [List.length_map, List.take_length] at e1
    have tl : ts.length = 4 := by
      have := congrArg List.length e1
      rw [List.length_map, List.length_map] at this
      omega
    have tprop : ∀ r ∈ ts, r.2.Nodup ∧ r.2.length ≤ m ∧ ∀ y ∈ r.2, PyData.strOk y = true := fun r hr => by
      have : r.2 ∈ rs.map (·.2) := by rw [← e1]; exact List.mem_map.mpr ⟨r, hr, rfl⟩
      obtain ⟨r', hr', e⟩ := List.mem_map.mp this
      rw [← e]
      exact (hrs r' hr').2.2
    have tp : ∀ r ∈ ts, r.1 ≠ p := fun r hr => (B.ne (t1 r hr).2.1).symm
    have B1 := B.same s1
    -- words
    obtain ⟨kv1, wd1, ht1⟩ := (hF.same s1).ex
    refine ⟨_, rfl, d, kv1, us.map (·.1), rfl, .inl wd1, ht1.keys, by rw [List.length_map]; omega, fun ys w6 hy hs nw6 => ?_⟩
    obtain rfl := srt_of hy hs
    generalize hE2 : upd H1 w6 _ = H2
    have ww2 : SAt H2 w6 (srt (us.map (·.1))) := new_at hE2
    have s2 := new_same hE2 nw6
    have hd2 := s2 _ _ wd1
    refine ⟨_, rfl, fun E nE => ?_⟩
    refine lc_it (walk_str (z := lettersS)) (fun j H' => Same H2 H' ∧ H' E = some (.lst ((((List.range j).map fun i => (⟨#[97 + i]⟩ : Str) ++ Str.ofString "not").filter fun y => decide (y ∉ us.map (·.1))).map V.str))) ⟨same_upd nE, upd_same⟩ (fun _ _ _ _ => trivial) ?_ ?_
    · rintro j x H3 H3' hj ⟨s3, w3⟩ ⟨rfl, c, hc', rfl⟩
      obtain ⟨hj26, rfl⟩ := letters_get hc'
      have l3 : (Str.ofString "not").length = 3 := by decide +kernel
      have ltot : ((⟨#[97 + j]⟩ : Str).length + (Str.ofString "not").length) ≤ sizeLine := by
        have h1 : (⟨#[97 + j]⟩ : Str).length = 1 := rfl
        rw [h1, l3]
        decide
      refine ⟨rfl, ?_⟩
      refine ⟨_, rfl, _, _, rfl, rfl, ltot, _, rfl, d, _, rfl, DGet.k (k := Sum.inr ((⟨#[97 + j]⟩ : Str) ++ Str.ofString "not")) (s3 _ _ hd2), _, rfl, ?_⟩
      rw [hN.val (FTab.same ht1 s2), range_map_succ', List.filter_append, List.map_append]
      by_cases hin : (⟨#[97 + j]⟩ : Str) ++ Str.ofString "not" ∈ us.map (·.1)
      · rw [decide_eq_true hin]
        refine iteF ⟨s3, ?_⟩
        rw [List.filter_cons_of_neg (p := fun y => decide (y ∉ us.map (·.1))) (by rw [decide_eq_false (fun z => z hin)]; exact Bool.false_ne_true), List.filter_nil, List.map_nil, List.append_nil]
        exact w3
      · rw [decide_eq_false hin]
        refine iteT ⟨_, rfl, _, _, rfl, rfl, ltot, _, w3, ?_, Same.own (q := E) (H1 := H3') s3 (mut_keep rfl) nE, ?_⟩
        · rw [List.length_map]
          refine Nat.lt_of_le_of_lt (List.length_filter_le _ _) ?_
          rw [List.length_map, List.length_range]
          exact small1000 (by omega)
        · rw [upd_same, List.filter_cons_of_pos (p := fun y => decide (y ∉ us.map (·.1))) (decide_eq_true hin)]
          rfl
    rintro H3 ⟨s3, w3⟩
    rw [letters_size] at w3
    obtain ⟨z, hzm, hzf⟩ := free_in (cands_nodup (Str.ofString "not")) (ds := us.map (·.1)) (by unfold cands; simp only [List.length_map, List.length_range]; omega)
    generalize hFs : ((List.range 26).map fun i => (⟨#[97 + i]⟩ : Str) ++ Str.ofString "not").filter (fun y => decide (y ∉ us.map (·.1))) = fs at w3
    have hz : z ∈ fs := by
      rw [← hFs]
      exact List.mem_filter.mpr ⟨hzm, decide_eq_true hzf⟩
    obtain ⟨f0, hf0⟩ : ∃ f0, fs[0]? = some f0 := by
      cases fs with
      | nil => cases hz
      | cons x r => exact ⟨x, rfl⟩
    have f0ok : PyData.strOk f0 = true := by
      have hm0 : f0 ∈ fs := List.mem_of_getElem? hf0
      rw [← hFs] at hm0
      obtain ⟨i, hi, rfl⟩ := List.mem_map.mp (List.mem_filter.mp hm0).1
      have hi := List.mem_range.mp hi
      refine Nm.ok ⟨fun c hc => ?_, ?_, ?_⟩
      · rw [sign_app_tl] at hc
        rcases List.mem_cons.mp hc with rfl | hc
        · omega
        · rw [show (Str.ofString "not").cps.toList = [110, 111, 116] by decide +kernel] at hc
          simp only [List.mem_cons, List.not_mem_nil, or_false] at hc
          omega
      · rw [len_tl', sign_app_tl]
        exact Nat.zero_lt_succ _
      · rw [len_tl', sign_app_tl, List.length_cons, ← len_tl', show (Str.ofString "not").length = 3 by decide +kernel]
        decide
    refine ⟨E, _, _, .str f0, rfl, rfl, SqL.of w3, atI_nat (j := 0) (by rw [List.getElem?_map, hf0]; rfl), by show 1 ≤ sizeLine; decide, fun g0 ng0 => ?_⟩
    generalize hE4 : upd H3 g0 _ = H4
    have wg0 := new_at hE4
    have s4 := new_same hE4 ng0
    have ww4 : SAt H4 w6 (srt (us.map (·.1))) := s4 _ _ (s3 _ _ ww2)
    have wsl : (srt (us.map (·.1))).length = us.length := by rw [srt_len, List.length_map]
    refine ⟨w6, g0, _, _, rfl, rfl, ww4, wg0, by rw [List.length_map, wsl]; exact Nat.le_of_lt (small1000 (show us.length + 1 ≤ 1000 by omega)), fun wo nwo => ?_⟩
    obtain ⟨words, hwords⟩ : ∃ xs, srt (us.map (·.1)) ++ [f0] = xs := ⟨_, rfl⟩
    have wcat : (srt (us.map (·.1))).map V.str ++ [V.str f0] = words.map V.str := by rw [← hwords, List.map_append]; rfl
    rw [wcat]
    have wdl : words.length = us.length + 1 := by rw [← hwords, List.length_append, wsl]; rfl
    have wok : ∀ x ∈ words, PyData.strOk x = true := fun x hx => by
      rw [← hwords] at hx
      rcases List.mem_append.mp hx with hx | hx
      · exact (hN.nm x (srt_mem.mp hx)).ok
      · rw [List.mem_singleton.mp hx]
        exact f0ok
    generalize hE5 : upd H4 wo _ = H5
    have wwo : SAt H5 wo words := new_at hE5
    have s5 := new_same hE5 nwo
    have s15 : Same H1 H5 := ((s2.trans s3).trans s4).trans s5
    have B5 := B1.same s15
    have npo : wo ≠ p := ((B1.same ((s2.trans s3).trans s4)).ne nwo).symm
    -- way, at, other
    refine ⟨_, rfl, ?_⟩
    refine take_of (z := 6) B5 (by decide) (by decide) (by omega) fun way H6 wy0 wy1 B6 k6 => ⟨_, rfl, ?_⟩
    refine take_of (z := 4) B6 (by decide) (by decide) (by omega) fun at_ H7 at0' at1' B7 k7 => ⟨_, rfl, ?_⟩
    refine take_of (z := 4) B7 (by decide) (by decide) (by omega) fun oth H8 ot0 ot1 B8 k8 => ?_
    obtain ⟨ja, rfl⟩ := Int.eq_ofNat_of_zero_le at0'
    obtain ⟨jo, rfl⟩ := Int.eq_ofNat_of_zero_le ot0
    refine ⟨_, _, _, rfl, ?_⟩
    have k58 := (k6.trans k7).trans k8
    -- word
    refine ⟨_, rfl, _, rfl, _, rfl, wo, _, rfl, .inl (SqL.of (k58 _ _ wwo npo)), ?_⟩
    refine ⟨_, rfl, ?_⟩
    refine take_of (z := 6) B8 (by decide) (by decide) (by omega) fun rr H9 rr0 rr1 B9 k9 => ?_
    refine ⟨_, _, rfl, rfl, .inr ⟨_, rfl, _, _, rfl, rfl, ?_⟩⟩
    rw [List.length_map, wdl]
    obtain ⟨less, hless, hless1⟩ : ∃ less : Int, (if decide ((0 : Int) < rr) = true then (1 : Int) else 0) = less ∧ 0 ≤ less ∧ less ≤ 1 := ⟨_, rfl, by split <;> omega, by split <;> omega⟩
    rw [hless]
    refine take_of (z := ((us.length + 1 : Nat) : Int) - less) B9 (by omega) (by omega) (by omega) fun rw_ H10 rw0 rw1 B10 k10 => ?_
    have k810 := k9.trans k10
    have k510 := k58.trans k810
    obtain ⟨word, hword, eword⟩ := menu_str (zs := words) rw0 (by rw [wdl]; omega)
    refine ⟨wo, _, _, _, rfl, rfl, SqL.of (k510 _ _ wwo npo), eword, ?_⟩
    have wokw := wok word hword
    have k010 : Kp p H H10 := ((Kp.of (s1.trans s15)).trans k510)
    have wD : H10 D = some (.lst (ts.map fun r => V.ref r.1)) := k510 _ _ (s15 _ _ w1) npD.symm
    have tS : ∀ r ∈ ts, SAt H10 r.1 r.2 := fun r hr => k510 _ _ (s15 _ _ (t1 r hr).1) (tp r hr)
    obtain ⟨ra, hra⟩ : ∃ r, ts[ja]? = some r := ⟨_, List.getElem?_eq_getElem (by omega)⟩
    obtain ⟨ro, hro⟩ : ∃ r, ts[jo]? = some r := ⟨_, List.getElem?_eq_getElem (by omega)⟩
    have ram := List.mem_of_getElem? hra
    have rom := List.mem_of_getElem? hro
    have ixa : atI (ts.map fun r => V.ref r.1) (ja : Int) = some (.ref ra.1) := atI_nat (by rw [List.getElem?_map, hra]; rfl)
    have ixo : atI (ts.map fun r => V.ref r.1) (jo : Int) = some (.ref ro.1) := atI_nat (by rw [List.getElem?_map, hro]; rfl)
    have ixN' : ∀ {k : Nat} {xs : List V}, xs.length = 4 → k < 4 → ixN xs.length (k : Int) = some k := fun {k xs} e hk => by
      unfold ixN
      rw [e, if_pos (by omega), if_pos (by omega)]
      rfl
    obtain ⟨ran, ral, rak⟩ := tprop ra ram
    have npl' : D ≠ p := npD.symm
    refine ⟨fun σ H' => Bag (n + 10) H' p ∧ Kp p H H' ∧ ∃ (ts' : List (Addr × List Str)) (y4 y5 y6 y7 y8 y9 y10 : Option V), H' D = some (.lst (ts'.map fun r => V.ref r.1)) ∧ ts'.length = 4 ∧ (∀ r ∈ ts', SAt H' r.1 r.2 ∧ r.1 ≠ p ∧ r.2.Nodup ∧ r.2.length ≤ m + 1 ∧ ∀ y ∈ r.2, PyData.strOk y = true) ∧
      σ = [some (.ref p), some (.ref d), some (.ref l), some (.ref D), y4, y5, y6, y7, y8, y9, y10], ?_, ?_⟩
    · have asis : ∀ {H' : Hp}, Same H10 H' → Bag (n + 10) H' p ∧ Kp p H H' ∧ ∃ (ts' : List (Addr × List Str)), H' D = some (.lst (ts'.map fun r => V.ref r.1)) ∧ ts'.length = 4 ∧ (∀ r ∈ ts', SAt H' r.1 r.2 ∧ r.1 ≠ p ∧ r.2.Nodup ∧ r.2.length ≤ m + 1 ∧ ∀ y ∈ r.2, PyData.strOk y = true) := fun e => ⟨(B10.same e).le (by omega), k010.same e, ts, e _ _ wD, tl, fun r hr => ⟨e _ _ (tS r hr), tp r hr, (tprop r hr).1, Nat.le_succ_of_le (tprop r hr).2.1, (tprop r hr).2.2⟩⟩
      -- elif way == 1, elif word not in found[at]
      have rest : ∀ {H' : Hp}, Same H10 H' → tIfS (tTest (tOp rEq (tVar 5) (tC (V.int 1)))) (tAsg (tTup (tCons (tOp (rIxL K) (tVar 3) (tVar 7)) (tCons (tOp (rIxL K) (tVar 3) (tVar 6)) tNil))) (gTup K 2 (gCons (gSub (tVar 3) (tVar 6) rSetL) (gCons (gSub (tVar 3) (tVar 7) rSetL) gNil)))) (tIfS (tTest (tOp (rIn K true) (tVar 8) (tOp (rIxL K) (tVar 3) (tVar 6)))) (tAsg (tCB (rSortedS K) (tCons (tOp rCat (tOp (rIxL K) (tVar 3) (tVar 6)) (tLst (tCons (tVar 8) tNil))) tNil)) (gSub (tVar 3) (tVar 6) rSetL)) tNext)
          { nx := fun σ H' => Bag (n + 10) H' p ∧ Kp p H H' ∧ ∃ (ts' : List (Addr × List Str)) (y4 y5 y6 y7 y8 y9 y10 : Option V), H' D = some (.lst (ts'.map fun r => V.ref r.1)) ∧ ts'.length = 4 ∧ (∀ r ∈ ts', SAt H' r.1 r.2 ∧ r.1 ≠ p ∧ r.2.Nodup ∧ r.2.length ≤ m + 1 ∧ ∀ y ∈ r.2, PyData.strOk y = true) ∧
            σ = [some (.ref p), some (.ref d), some (.ref l), some (.ref D), y4, y5, y6, y7, y8, y9, y10], rt := Q } [some (.ref p), some (.ref d), some (.ref l), some (.ref D), some (.ref wo), some (.int way), some (.int ja), some (.int jo), some (.str word), none, none] H' := fun {H11} e11 => by
        have wD11 := e11 _ _ wD
        refine ⟨_, rfl, rfl, _, rfl, ?_⟩
        refine ite2 (fun _ => ?_) (fun _ => ?_)
        · refine ⟨_, rfl, _, rfl, D, _, _, _, rfl, rfl, SqL.of wD11, ixo, _, rfl, _, rfl, D, _, _, _, rfl, rfl, SqL.of wD11, ixa, by show 2 ≤ sizeLine; decide, fun t nt => ?_⟩
          generalize hEt : upd H11 t _ = Ht
          have wt := new_at hEt
          have st := new_same hEt nt
          refine ⟨t, _, rfl, SqT.of wt, rfl, _, _, rfl, ?_⟩
          refine ⟨_, rfl, _, rfl, D, _, _, ja, rfl, rfl, st _ _ wD11, ixN' (by rw [List.length_map]; exact tl) (by omega), ?_⟩
          generalize hEa : upd Ht D _ = Ha
          have wa := new_at hEa
          have ma := mut_keep hEa
          refine ⟨_, _, rfl, ?_⟩
          refine ⟨_, rfl, _, rfl, D, _, _, jo, rfl, rfl, wa, ixN' (by rw [List.length_set, List.length_map]; exact tl) (by omega), ?_⟩
          generalize hEb : upd Ha D _ = Hb
          have wb := new_at hEb
          have mb := mut_keep hEb
          refine ⟨rfl, ?_⟩
          have kD : Kp D H10 Hb := ((Kp.of (e11.trans st)).trans ma).trans mb
          have e0b : Same H Hb ∨ True := .inr trivial
          refine ⟨((((B10.same e11).same st).keep ma npD).keep mb npD).le (by omega), ((k010.same (e11.trans st)).own ma nD).own mb nD, (ts.set ja ro).set jo ra, _, _, _, _, _, _, _, ?_, by rw [List.length_set, List.length_set]; exact tl, fun r hr => ?_, rfl⟩
          · rw [wb, List.map_set, List.map_set]
          · have hmem : r ∈ ts := by
              rcases List.mem_or_eq_of_mem_set hr with hr | rfl
              · rcases List.mem_or_eq_of_mem_set hr with hr | rfl
                · exact hr
                · exact rom
              · exact ram
            exact ⟨kD _ _ (tS r hmem) (t1 r hmem).2.2, tp r hmem, (tprop r hmem).1, Nat.le_succ_of_le (tprop r hmem).2.1, (tprop r hmem).2.2⟩
        · refine ⟨_, rfl, _, rfl, _, rfl, D, _, _, _, rfl, rfl, SqL.of wD11, ixa, ra.1, _, rfl, .inl (SqL.of (e11 _ _ (tS ra ram))), rfl, strs_flat ra.2, _, rfl, ?_⟩
          show if (if true = true then !inV (.str word) (ra.2.map V.str) else _) = true then _ else _
          rw [if_pos rfl, inV_str]
          by_cases c : word ∈ ra.2
          · rw [decide_eq_true c]
            obtain ⟨u1, u2, ts', u3, u4, u5⟩ := asis e11
            exact iteF ⟨u1, u2, ts', _, _, _, _, _, _, _, u3, u4, u5, rfl⟩
          · rw [decide_eq_false c]
            refine iteT ⟨_, rfl, _, rfl, D, _, _, _, rfl, rfl, SqL.of wD11, ixa, _, rfl, by show 1 ≤ sizeLine; decide, fun g ng => ?_⟩
            generalize hEg : upd H11 g _ = Hg
            have wg := new_at hEg
            have sg := new_same hEg ng
            refine ⟨ra.1, g, _, _, rfl, rfl, sg _ _ (e11 _ _ (tS ra ram)), wg, by rw [List.length_map]; exact Nat.le_of_lt (small1000 (show ra.2.length + 1 ≤ 1000 by omega)), fun cc ncc => ?_⟩
            have ecat : ra.2.map V.str ++ [V.str word] = (ra.2 ++ [word]).map V.str := by rw [List.map_append]; rfl
            rw [ecat]
            generalize hEc : upd Hg cc _ = Hc
            have wc := new_at hEc
            have sc := new_same hEc ncc
            refine ⟨cc, ra.2 ++ [word], rfl, SqL.of wc, by rw [List.length_append]; show ra.2.length + 1 < 64; omega, fun ys q6 hy hs nq6 => ?_⟩
            obtain rfl := srt_of hy hs
            generalize hEq : upd Hc q6 _ = Hq
            have wq : SAt Hq q6 (srt (ra.2 ++ [word])) := new_at hEq
            have sq := new_same hEq nq6
            have s11q := (sg.trans sc).trans sq
            have e0q := e11.trans s11q
            have npq : q6 ≠ p := ((B10.same (e11.trans (sg.trans sc))).ne nq6).symm
            have nqD : q6 ≠ D := (ne_some ((e11.trans (sg.trans sc)) _ _ wD) nq6).symm
            refine ⟨_, rfl, _, rfl, D, _, _, ja, rfl, rfl, e0q _ _ wD, ixN' (by rw [List.length_map]; exact tl) (by omega), ?_⟩
            generalize hEa : upd Hq D _ = Ha
            have wa := new_at hEa
            have ma := mut_keep hEa
            refine ⟨((B10.same e0q).keep ma npD).le (by omega), (k010.same e0q).own ma nD, ts.set ja (q6, srt (ra.2 ++ [word])), _, _, _, _, _, _, _, by rw [wa, List.map_set], by rw [List.length_set]; exact tl, fun r hr => ?_, rfl⟩
            rcases List.mem_or_eq_of_mem_set hr with hr | rfl
            · exact ⟨ma _ _ (e0q _ _ (tS r hr)) (t1 r hr).2.2, tp r hr, (tprop r hr).1, Nat.le_succ_of_le (tprop r hr).2.1, (tprop r hr).2.2⟩
            · refine ⟨ma _ _ wq nqD, npq, srt_nodup (snoc_nodup ran c), by rw [srt_len, List.length_append]; show ra.2.length + 1 ≤ m + 1; omega, fun y hy2 => ?_⟩
              rcases List.mem_append.mp (srt_mem.mp hy2) with h | h
              · exact rak y h
              · rw [List.mem_singleton.mp h]
                exact wokw
      -- if way == 0 and found[at] != []
      refine ⟨_, rfl, rfl, _, rfl, ?_⟩
      refine ite2 (fun _ => ?_) (fun _ => iteF (rest (Same.refl _)))
      refine ⟨_, rfl, _, rfl, D, _, _, _, rfl, rfl, SqL.of wD, ixa, by show 0 ≤ sizeLine; decide, fun e ne => ?_⟩
      generalize hEe : upd H10 e _ = He
      have we : He e = some (.lst (([] : List Str).map V.str)) := new_at hEe
      have se := new_same hEe ne
      have raE : SAt He ra.1 ra.2 := se _ _ (tS ra ram)
      refine neD_strs (SqL.of raE) (SqL.of we) rak (fun y hy => nomatch hy) ⟨_, rfl, ?_⟩
      by_cases c : ra.2 = []
      · rw [decide_eq_true c]
        exact iteF (rest se)
      · rw [decide_eq_false c]
        have hpos := List.length_pos_iff.mpr c
        have wDe := se _ _ wD
        refine iteT ⟨_, rfl, _, rfl, D, _, _, _, rfl, rfl, SqL.of wDe, ixa, .inl ⟨rfl, _, SqL.of raE⟩, _, rfl, _, rfl, _, rfl, D, _, _, _, rfl, rfl, SqL.of wDe, ixa, ra.1, _, rfl, .inl (SqL.of raE), ?_⟩
        refine take_of (z := ((ra.2.map V.str).length : Int)) (B10.same se) (by rw [List.length_map]; omega) (by rw [List.length_map]; omega) (by omega) fun r6 H6' a6 b6 B6' k6' => ?_
        rw [List.length_map] at b6
        have hr : r6.toNat < ra.2.length := by omega
        have ra6 : SAt H6' ra.1 ra.2 := k6' _ _ raE (tp ra ram)
        refine ⟨ra.1, _, r6, r6.toNat, .str ra.2[r6.toNat], rfl, rfl, ra6, by omega, by omega, by rw [List.length_map]; exact seq_ix a6 b6, by rw [List.getElem?_map, List.getElem?_eq_getElem hr]; rfl, ?_⟩
        generalize hE7 : upd H6' ra.1 _ = H7'
        have wa7 := new_at hE7
        have m7 := mut_keep hE7
        rw [map_pick] at wa7
        have nraD : D ≠ ra.1 := (t1 ra ram).2.2.symm
        have nraH : H ra.1 = none := (t1 ra ram).2.1
        let ts' : List (Addr × List Str) := ts.map fun q => if q.1 = ra.1 then (q.1, ra.2.eraseIdx r6.toNat) else q
        have hrefs : (ts'.map fun r => V.ref r.1) = ts.map fun r => V.ref r.1 := by
          show (ts.map _).map _ = _
          rw [List.map_map]
          refine List.map_congr_left fun q _ => ?_
          show V.ref (if q.1 = ra.1 then (q.1, ra.2.eraseIdx r6.toNat) else q).1 = V.ref q.1
          split <;> rfl
        refine ⟨(B6'.keep m7 (tp ra ram).symm).le (by omega), ((k010.same se).trans k6').own m7 nraH, ts', _, _, _, _, _, _, _, by rw [hrefs]; exact m7 _ _ (k6' _ _ wDe npl') nraD, by show (ts.map _).length = 4; rw [List.length_map]; exact tl, fun r hr2 => ?_, rfl⟩
        obtain ⟨q0, hq0, rfl⟩ := List.mem_map.mp hr2
        by_cases c2 : q0.1 = ra.1
        · rw [if_pos c2]
          refine ⟨by show H7' q0.1 = _; rw [c2]; exact wa7, tp q0 hq0, ran.sublist (List.eraseIdx_sublist ..), Nat.le_succ_of_le (Nat.le_trans (List.length_eraseIdx_le ..) ral), fun y hy => rak y (List.mem_of_mem_eraseIdx hy)⟩
        · rw [if_neg c2]
          exact ⟨m7 _ _ (k6' _ _ (se _ _ (tS q0 hq0)) (tp q0 hq0)) c2, tp q0 hq0, (tprop q0 hq0).1, Nat.le_succ_of_le (tprop q0 hq0).2.1, (tprop q0 hq0).2.2⟩
    · rintro σ H' ⟨u1, u2, ts', y4, y5, y6, y7, y8, y9, y10, u3, u4, u5, rfl⟩
      exact ⟨_, rfl, q D ts' H' nD npl' u1 u2 u3 u4 u5⟩

-- SPLIT
/-- what tuple(..) of a list or a tuple comes to -/
abbrev rTupS (K : PySem.W.Frag) : List V → Hp → VK → Prop := fun xs H Q => ∃ p ys, xs = [.ref p] ∧ ((SqL K H p ys ∧ ∀ l, H l = none → Q (.ref l) (upd H l (.tup ys))) ∨ (SqT K H p ys ∧ Q (.ref p) H))
/-- what sorted(..) of a tuple of texts comes to -/
def rSortTS (K : PySem.W.Frag) : List V → Hp → VK → Prop := fun vs H Q => ∃ (a : Addr) (xs : List Str), vs = [.ref a] ∧ SqT K H a (xs.map V.str) ∧ xs.length < 64 ∧
  ∀ p, H p = none → Q (.ref p) (upd H p (.lst ((srt xs).map V.str)))
open PySem.Spec PyProof.Rows in
theorem cr_sortTS {X : Cx} : CallR X (.builtin "sorted") (rSortTS X.K) := fun pins s σ H vs us Q I r h => by
  obtain ⟨a, xs, rfl, tx, few, q⟩ := h
  cases Vals.ref1 r
  obtain ⟨its, rv, ⟨o, ho, hc, n, hd⟩, hz⟩ := I.tuple tx
  have ln : xs.length = its.length := by
    have := rv.length
    rwa [List.length_map] at this
  have room : its.length ≤ sizeLine := small64 (by omega)
  refine Calls.call_function_entry PyProof.Rows.kind_sorted PyProof.Rows.plain_sorted PyProof.Rows.entry_sorted (PyProof.Rows.args_sorted1 _) ?_
  unfold Builtin.«sorted»
  refine wpAny_bind (m := checkCount "sorted" 1 1 _) (wpAny_pure (wpAny_bind (wpAny_collect_seq (A := X.A.in1) a (.inr rfl) ho hc hd (fun hp old => ?_) (by rw [List.size_toArray]; exact room))))
  have I1 : L2.Inv X pins σ H { s with heap := hp } := I.kept old
  refine wpAny_bind (wpAny_newList ?_ (by simpa using room))
  have put : (hp.push (seqObj "list" its.toArray 0)).get? hp.objs.size = some (seqObj "list" its.toArray 0) := Heap.get?_push_size _ rfl
  refine wpAny_bind (wpAny_holding (wpAny_call_entry PyProof.Rows.slot_list_sort ⟨_, put, rfl⟩ PyProof.Rows.entry_list_sort
    (PyProof.Rows.list_sort_treeK PyProof.Rows.strKind_oneLt put rv.strs.keysOf (fun v₁ v₂ rest e => PyProof.Rows.keyKind_strs (by rw [← e]; exact rv.strs)) (by omega) fun st pm so => ⟨_, rfl, ?_⟩) (PyProof.Rows.args_list_sort _)))
  obtain ⟨ys, as, yp, ys'⟩ := PyProof.Rows.sorted_out_str rv.strs pm so
  cases srt_of yp ys'
  obtain ⟨ep, fin⟩ := PyProof.Rows.sortedHeap_at (vs := its) (out := (PyProof.Rows.arrOf st).map (·.2)) put
  refine wpAny_pure ⟨_, rfl, .ref hp.objs.size, upd H hp.objs.size (.lst ((srt xs).map V.str)), I1.laid (t' := s.toks) (fun b u e => ?_) (Nat.le_refl _) ⟨?_, _, ep, vals_of_strs as, fin⟩, rfl, q _ (I1.hok.fresh (Nat.le_refl _))⟩
  · have lt : b < hp.objs.size := Heap.lt_size e
    rw [PyProof.Rows.sortedHeap_old (Nat.ne_of_lt lt) (by rw [size_push']; exact Nat.lt_succ_of_lt lt)]
    exact Heap.get?_push_of_some _ e
  · rw [List.length_map, srt_len]
    exact small64 few

theorem nb_of {ns ss : List Str} {us : List (Str × UF)} (h : ∀ q ∈ us, UOk ns ss q.1 q.2) : NBr us ∧ ∀ p ∈ us, p.2.needs.length ≤ 100 ∧ p.2.after.length ≤ 100 := by
  refine ⟨fun q hq z => ?_, fun q hq => ⟨Nat.le_trans (h q hq).lN (by decide), Nat.le_trans (h q hq).lA (by decide)⟩⟩
  refine ((h q hq).mem q.1 ?_).2 rfl
  unfold UF.named
  exact List.mem_append_left _ (List.mem_append_left _ (List.mem_append_right _ z))

-- SPLIT
/-! ### the law -/
theorem self_of {ns ss : List Str} {us : List (Str × UF)} (hn : (us.map (·.1)).Nodup) (h : ∀ q ∈ us, UOk ns ss q.1 q.2) (w : Str) : w ∉ wt us w := by
  refine waits_self hn (fun q hq => ⟨fun z => ?_, fun z => ?_, fun z => ?_⟩) w
  · refine ((h q hq).mem q.1 ?_).2 rfl
    unfold UF.named
    exact List.mem_append_left _ (List.mem_append_left _ (List.mem_append_left _ (List.mem_append_left _ z)))
  · refine ((h q hq).mem q.1 ?_).2 rfl
    unfold UF.named
    exact List.mem_append_left _ (List.mem_append_right _ z)
  · refine ((h q hq).mem q.1 ?_).2 rfl
    unfold UF.named
    rw [z]
    exact List.mem_append_right _ (List.mem_singleton.mpr rfl)
/-- four rows, as right wants them -/
theorem rows_any {H : Hp} {l : Addr} {rs : List (Addr × List Str)} (h4 : rs.length = 4) (hl : H l = some (.lst (rs.map fun r => V.ref r.1))) (hr : ∀ r ∈ rs, SAt H r.1 r.2 ∧ r.2.Nodup ∧ r.2.length ≤ 40 ∧ ∀ y ∈ r.2, PyData.strOk y = true) :
    ∃ s : SF, Rows4 H l s ∧ SFew s ∧ SStr s ∧ s.wished.Nodup := by
  match rs, h4 with
  | [a, b, c, d], _ =>
    obtain ⟨a1, a2, a3, a4⟩ := hr a (by simp)
    obtain ⟨b1, b2, b3, b4⟩ := hr b (by simp)
    obtain ⟨c1, c2, c3, c4⟩ := hr c (by simp)
    obtain ⟨d1, d2, d3, d4⟩ := hr d (by simp)
    refine ⟨⟨a.2, b.2, c.2, d.2⟩, ⟨a.1, b.1, c.1, d.1, hl, a1, b1, c1, d1⟩, ⟨a3, b3, c3, d3⟩, fun x hx => ?_, a2⟩
    simp only [List.mem_append] at hx
    rcases hx with ((hx | hx) | hx) | hx
    · exact a4 x hx
    · exact b4 x hx
    · exact c4 x hx
    · exact d4 x hx
def sp_law (K : PySem.W.Frag) : Sp := fun vs H Q _ => ∃ (a : Addr) (ns : List Int), vs = [.ref a] ∧ SqL K H a (ns.map V.int) ∧ ns.length ≤ 63 ∧ ∀ H', Q (.bl true) H'
theorem ok_law (T : Txt K mg) : FnOk P w K mg base CX0 13 (He.fAd K ("law", none)) T.d_law ["_law_script"] (sp_law K) := by
  refine T.F_law.ok sc_law (fun vs H Q E h => ?_) (fun cdv A outer s H vs Q E hr h => ?_)
  · obtain ⟨a, ns, rfl, _⟩ := h
    rfl
  · obtain ⟨a, ns, rfl, hS, hlen, q⟩ := h
    refine ⟨_, PSs.nox (pss_cons (ps_for PassesOwn.never rfl (pi_range1 (by rfl) T.n_range (pa_cons (pe_callB (id := "max")  (call_max2 rfl) (by rfl) T.n_max (by decide +kernel) (pa_cons pe_int (pa_cons (pe_callB (id := "min")  (call_min2 rfl) (by rfl) T.n_min (by decide +kernel) (pa_cons pe_int (pa_cons (pe_callB (id := "len")  call_len_seq (by rfl) T.n_len (by decide +kernel) (pa_cons (pv 0) pa_nil)) pa_nil))) pa_nil))) pa_nil)) (pg_name (i := 1) sc_law.nd rfl (Or.inl rfl))
      (pss_cons (ps_set (i := 2) sc_law.nd rfl (Or.inr rfl) (pe_call (ok_law_bag T) (hr.mono (by decide)) (by rfl) T.m_law_bag T.F_law_bag.kp T.b_law_bag .nil pass0 (pa_cons (pv 0) (pa_cons (pv 1) pa_nil))))
      (pss_cons (ps_set (i := 3) sc_law.nd rfl (Or.inl rfl) (pe_call (ok_law_facts T) (hr.mono (by decide)) (by rfl) T.m_law_facts T.F_law_facts.kp T.b_law_facts .nil pass0 (pa_cons (pv 2) (pa_cons pe_int pa_nil))))
      (pss_cons (ps_set (i := 4) sc_law.nd rfl (Or.inl rfl) (pe_make T.mk_Shelf (ok_Shelf_init T) (hr.mono (by decide)) (by rfl) T.m_Shelf T.b2_Shelf_init .nil pass0 (pa_cons (pe_call (ok_law_units T) (hr.mono (by decide)) (by rfl) T.m_law_units T.F_law_units.kp T.b_law_units .nil pass0 (pa_cons (pv 3) pa_nil)) pa_nil)))
      (pss_cons (ps_set (i := 5) sc_law.nd rfl (Or.inl rfl) (pe_callTy (T := "list")  call_list_of (by rfl) T.n_list (by decide +kernel) (pa_cons (pe_call (ok_law_stand_drawn T) (hr.mono (by decide)) (by rfl) T.m_law_stand_drawn T.F_law_stand_drawn.kp T.b_law_stand_drawn .nil pass0 (pa_cons (pv 2) (pa_cons (pv 3) pa_nil))) pa_nil)))
      (pss_cons (ps_if (pt_mid (PW.pt (pw_or (pt_not (pt_val (pe_call (ok_law_due T) (hr.mono (by decide)) (by rfl) T.m_law_due T.F_law_due.kp T.b_law_due .nil pass0 (pa_cons (pv 3) (pa_cons (pv 5) pa_nil))))) (pw_or1 (pt_not (pt_val (pe_call (ok_law_right T) (hr.mono (by decide)) (by rfl) T.m_law_right T.F_law_right.kp T.b_law_right .nil pass0 (pa_cons (pv 3) (pa_cons (pv 4) (pa_cons (pv 5) pa_nil))))))))))
      (pss_one (ps_ret pe_bl))
      pss_nil)
      (pss_cons (ps_for PassesOwn.never rfl (pi_range1 (by rfl) T.n_range (pa_cons pe_int pa_nil)) (pg_name (i := 6) sc_law.nd rfl (Or.inl rfl))
      (pss_cons (ps_set (i := 5) sc_law.nd rfl (Or.inl rfl) (pe_call (ok_law_bent T) (hr.mono (by decide)) (by rfl) T.m_law_bent T.F_law_bent.kp T.b_law_bent .nil pass0 (pa_cons (pv 2) (pa_cons (pv 3) (pa_cons (pv 5) pa_nil)))))
      (pss_one (ps_if (pt_mid (pt_not (pt_val (pe_call (ok_law_right T) (hr.mono (by decide)) (by rfl) T.m_law_right T.F_law_right.kp T.b_law_right .nil pass0 (pa_cons (pv 3) (pa_cons (pv 4) (pa_cons (pv 5) pa_nil)))))))
      (pss_one (ps_ret pe_bl))
      pss_nil))))
      (pss_cons (ps_set (i := 7) sc_law.nd rfl (Or.inr rfl) (pe_callB (id := "sorted")  (call_sortedD rfl) (by rfl) T.n_sorted (by decide +kernel) (pa_cons (pv 3) pa_nil)))
      (pss_cons (ps_setLc (i := 8) (own := [("_law_turn", 6)]) (by rfl) sc_law.nd rfl rfl (sw_true rfl rfl rfl (by decide +kernel)) (pi_range1 (by rfl) T.n_range (pa_cons pe_int pa_nil)) (blkOk_by (own := [("_law_turn", 6)]) (N := N_law) (sc := defScope s_law) (by decide +kernel)) (fun _ _ _ _ _ => (pg_name (i := 6) sc_law.nd rfl (Or.inl rfl))) (fun _ _ _ _ _ => pts_nil) (fun _ _ _ _ _ => (pe_callB (id := "sorted")  (r := rSortTS K) cr_sortTS (by rfl) T.n_sorted (by decide +kernel) (pa_cons (pe_call (ok_law_some T) (hr.mono (by decide)) (by rfl) T.m_law_some T.F_law_some.kp T.b_law_some .nil pass0 (pa_cons (pv 2) (pa_cons (pv 7) (pa_cons (pe_ix (r := rIxL K) ix_list (pe_lst (pa_cons pe_int (pa_cons (pe_callB (id := "len")  (r := Evl.rLenS K) call_len_seq (by rfl) T.n_len (by decide +kernel) (pa_cons (pv 7) pa_nil)) pa_nil))) (pe_call (ok_law_take T) (hr.mono (by decide)) (by rfl) T.m_law_take T.F_law_take.kp T.b_law_take .nil pass0 (pa_cons (pv 2) (pa_cons pe_int pa_nil))) (fun _ _ => rfl)) pa_nil)))) pa_nil))))
      (pss_cons (ps_if (pt_mid (PW.pt (pw_or (pt_not (pt_val (pe_call (ok_law_right T) (hr.mono (by decide)) (by rfl) T.m_law_right T.F_law_right.kp T.b_law_right .nil pass0 (pa_cons (pv 3) (pa_cons (pv 4) (pa_cons (pv 8) pa_nil)))))) (pw_or1 (pt_not (pt_val (pe_call (ok_law_right T) (hr.mono (by decide)) (by rfl) T.m_law_right T.F_law_right.kp T.b_law_right .nil pass0 (pa_cons (pv 3) (pa_cons (pv 4) (pa_cons (pe_lst (pa_cons (pv 7) (pa_cons (pe_lst pa_nil) (pa_cons (pe_lst pa_nil) (pa_cons (pe_lst pa_nil) pa_nil))))) pa_nil))))))))))
      (pss_one (ps_ret pe_bl))
      pss_nil)
      (pss_one (ps_if (pt_mid (pt_not (pt_val (pe_call (ok_law_right T) (hr.mono (by decide)) (by rfl) T.m_law_right T.F_law_right.kp T.b_law_right .nil pass0 (pa_cons (pv 3) (pa_cons (pv 4) (pa_cons (pe_lst (pa_cons (pv 7) (pa_cons (pv 7) (pa_cons (pe_lst pa_nil) (pa_cons (pe_lst pa_nil) pa_nil))))) pa_nil)))))))
      (pss_one (ps_ret pe_bl))
      pss_nil))))))))))))
      (pss_one (ps_ret (pe_cmpR op_isBl (pe_call (ok_fits T) (hr.mono (by decide)) (by rfl) T.m_fits T.F_fits.kp T.b_fits .nil pass0 (pa_cons (pe_make0 T.mk_Shelf (ok_Shelf_init T) (hr.mono (by decide)) (by rfl) T.m_Shelf T.b1_Shelf_init.choose_spec.2 T.b1_Shelf_init.choose_spec.1 pass0) (pa_cons (pe_makeK0 T.mk_Stand (ok_Stand_init T) (hr.mono (by decide)) (by rfl) T.m_Stand T.kb_Stand_init_1_none.choose_spec pass0 pk_nil) pa_nil))) pe_bl (nomark _))))), ?_⟩
    refine ⟨_, rfl, a, _, rfl, .inl hS, _, _, rfl, _, _, rfl, _, rfl, ?_, ?_, for_range (lo := 0) (fun i σ H' => Same H H' ∧ ∃ y1 y2 y3 y4 y5 y6 y7 y8, σ = [some (.ref a), y1, y2, y3, y4, y5, y6, y7, y8]) ⟨Same.refl H, _, _, _, _, _, _, _, _, rfl⟩ ?_ ?_⟩
    · split <;> split <;> omega
    · split <;> split <;> omega
    · rintro i σ H1 hi ⟨s1, y1, y2, y3, y4, y5, y6, y7, y8, rfl⟩
      have hi9 : i < 10 := by
        rw [List.length_map] at hi
        revert hi
        split <;> split <;> omega
      have hS1 := s1.seq hS
      -- bag, facts
      refine ⟨_, rfl, _, rfl, a, ns, i, by rw [Int.zero_add]; rfl, hS1, by omega, fun p H2 np s2 B2 => ?_⟩
      refine ⟨_, rfl, p, 16, 0, rfl, B2, by omega, by decide, by decide, fun nms ss us kvs d H3 hus hnd hnm h0 hk16 ssn ssm ssl huo hfa nd wd B3 k3 => ?_⟩
      have npH : H p = none := s1.free np
      have S3 : Same H H3 := Same.own (s1.trans s2) k3 npH
      obtain ⟨hNB, hFew⟩ := nb_of huo
      have hul : us.length ≤ 16 := by
        have := congrArg List.length hus
        rw [List.length_map] at this
        omega
      have hu0 : 0 < us.length := by
        have := congrArg List.length hus
        rw [List.length_map] at this
        omega
      have hN : Nms us := ⟨by rw [hus]; exact hnd, hul, by rw [hus]; exact hnm⟩
      have hself := self_of hN.nd huo
      have hLF : LF K H3 d us := ⟨⟨kvs, wd, FactsAt.tab hfa⟩, hN, hFew⟩
      -- made
      refine ⟨_, rfl, d, kvs, us, rfl, wd, FactsAt.tab hfa, hN, fun ul xs0 H5 nul s5 wul hU => ?_⟩
      refine fun x dx nx' ndx nex => ?_
      have sn : Same H5 (upd (upd H5 dx (.own x)) x (.ins (He.ga K "Shelf") dx [])) := Same.made nx' ndx fun b o e _ => e
      refine ⟨x, dx, ul, xs0, us, rfl, upd_same, .inl (SqL.of (sn _ _ wul)), hU.same sn, hN, fun H6 hSh kp6 => ⟨rfl, ?_⟩⟩
      have s56 : Same H5 H6 := Same.made nx' ndx fun b o e n => kp6 b o e n
      have s36 := s5.trans s56
      have hF6 := hLF.same s36
      have B6 := B3.same s36
      have S6 : Same H H6 := S3.trans s36
      -- rows
      refine ⟨_, rfl, _, rfl, p, d, _, us, rfl, B6, by omega, hF6, hNB, hu0, fun t a1 a2 a3 a4 s H7 B7 k7 hF7 nt wt w1 w2 w3 w4 np1 np2 np3 np4 hfit hun => ?_⟩
      have S7 : Same H H7 := Same.own S6 k7 npH
      have hS7 := hSh.keepB k7 B6
      refine ⟨t, _, rfl, .inr (SqT.of wt), fun R nR => ?_⟩
      generalize hE8 : upd H7 R _ = H8
      have wR := new_at hE8
      have s8 := new_same hE8 nR
      have B8 := B7.same s8
      have npR : R ≠ p := (B7.ne nR).symm
      obtain ⟨f1, f2, _⟩ := id hfit
      obtain ⟨m1, m2, m3⟩ := List.nodup_append.mp f2
      obtain ⟨m4, m5, m6⟩ := List.nodup_append.mp m1
      have lenOf : ∀ {ys : List Str}, ys.Nodup → (∀ y ∈ ys, y ∈ us.map (·.1)) → ys.length ≤ 16 := fun hn hs => Nat.le_trans (nodup_le _ _ hn hs) hN.len
      have g1 : ∀ y ∈ s.wished, y ∈ us.map (·.1) := fun y hy => f1 y (by simp only [List.mem_append]; exact .inl (.inl (.inl hy)))
      have g2 : ∀ y ∈ s.up, y ∈ us.map (·.1) := fun y hy => f1 y (by simp only [List.mem_append]; exact .inl (.inl (.inr hy)))
      have g3 : ∀ y ∈ s.later, y ∈ us.map (·.1) := fun y hy => f1 y (by simp only [List.mem_append]; exact .inl (.inr hy))
      have g4 : ∀ y ∈ s.back, y ∈ us.map (·.1) := fun y hy => f1 y (by simp only [List.mem_append]; exact .inr hy)
      have fewS : SFew s := ⟨Nat.le_trans (lenOf m4 g1) (by decide), Nat.le_trans (lenOf hun g2) (by decide), Nat.le_trans (lenOf m5 g3) (by decide), Nat.le_trans (lenOf m2 g4) (by decide)⟩
      have okS : SStr s := fun y hy => (hN.nm y (f1 y hy)).ok
      have R8 : Rows4 H8 R s := ⟨a1, a2, a3, a4, wR, s8 _ _ w1, s8 _ _ w2, s8 _ _ w3, s8 _ _ w4⟩
      have hF8 := hF7.same s8
      have hS8 := hS7.same s8
      have keepR : ∀ {Ha Hb : Hp} {l : Addr} {s : SF}, Same Ha Hb → Rows4 Ha l s → Rows4 Hb l s := fun e h => by
        obtain ⟨a1, a2, a3, a4, h0, h1, h2, h3, h4⟩ := h
        exact ⟨a1, a2, a3, a4, e _ _ h0, e _ _ h1, e _ _ h2, e _ _ h3, e _ _ h4⟩
      -- if not due or not right
      refine ⟨fun b H' => b = false ∧ Same H8 H', ?_, ?_⟩
      · refine ⟨_, rfl, _, rfl, d, R, us, s, rfl, hF8, hNB, R8, fewS, okS, m4, fun H9 s9 => ⟨_, rfl, ?_⟩⟩
        rw [@decide_eq_true _ (Classical.propDecidable _) hfit]
        refine iteF ⟨_, rfl, _, rfl, _, rfl, d, x, R, us, s, rfl, hF8.same s9, hNB, hS8.same s9, hself, keepR s9 R8, fewS, okS, m4, fun H10 s10 => ⟨_, rfl, rfl, s9.trans s10⟩⟩
      rintro b H9 ⟨rfl, s9⟩
      refine iteF ?_
      have s79 := s8.trans s9
      have B9 := B8.same s9
      -- for turn in range(4)
      refine ⟨_, rfl, by decide, by decide, for_range (lo := 0) (n := (4 : Int).toNat) (fun i' σ H' => Bag (4000 + 20 * i') H' p ∧ Same H H' ∧ LF K H' d us ∧ ShelfAt K H' x us ∧ ∃ (l : Addr) (rs : List (Addr × List Str)) (y6 y7 y8 : Option V), H' l = some (.lst (rs.map fun r => V.ref r.1)) ∧ l ≠ p ∧ rs.length = 4 ∧ (∀ r ∈ rs, SAt H' r.1 r.2 ∧ r.1 ≠ p ∧ r.2.Nodup ∧ r.2.length ≤ 16 + i' ∧ ∀ y ∈ r.2, PyData.strOk y = true) ∧
          σ = [some (.ref a), some (.int (0 + (i : Int))), some (.ref p), some (.ref d), some (.ref x), some (.ref l), y6, y7, y8])
        ⟨B9.le (by omega), S7.trans s79, hF7.same s79, hS7.same s79, R, [(a1, s.wished), (a2, s.up), (a3, s.later), (a4, s.back)], _, _, _, s9 _ _ wR, npR, rfl, fun r hr => ?_, rfl⟩ ?_ ?_⟩
      · simp only [List.mem_cons, List.not_mem_nil, or_false] at hr
        rcases hr with rfl | rfl | rfl | rfl
        · exact ⟨s79 _ _ w1, np1, m4, lenOf m4 g1, fun y hy => (hN.nm y (g1 y hy)).ok⟩
        · exact ⟨s79 _ _ w2, np2, hun, lenOf hun g2, fun y hy => (hN.nm y (g2 y hy)).ok⟩
        · exact ⟨s79 _ _ w3, np3, m5, lenOf m5 g3, fun y hy => (hN.nm y (g3 y hy)).ok⟩
        · exact ⟨s79 _ _ w4, np4, m2, lenOf m2 g4, fun y hy => (hN.nm y (g4 y hy)).ok⟩
      · rintro i' σ H10 hi' ⟨B10, S10, hF10, hS10, l, rs, y6, y7, y8, wl, nlp, rl, hrs, rfl⟩
        have hi4 : i' < 4 := hi'
        refine ⟨_, rfl, _, rfl, _, rfl, p, d, l, _, 16 + i', us, rs, rfl, B10, by omega, hF10, hu0, nlp, wl, rl, hrs, by omega, fun l' rs' H11 nl' nlp' B11 k11 wl' rl' hrs' => ?_⟩
        have hF11 := hF10.keepB k11 B10
        have hS11 := hS10.keepB k11 B10
        obtain ⟨s', R', few', ok', wn'⟩ := rows_any rl' wl' fun r hr => ⟨(hrs' r hr).1, (hrs' r hr).2.2.1, Nat.le_trans (hrs' r hr).2.2.2.1 (by omega), (hrs' r hr).2.2.2.2⟩
        refine ⟨fun b H' => b = false ∧ Same H11 H', ?_, ?_⟩
        · exact ⟨_, rfl, _, rfl, _, rfl, d, x, l', us, s', rfl, hF11, hNB, hS11, hself, R', few', ok', wn', fun H12 s12 => ⟨_, rfl, rfl, s12⟩⟩
        rintro b H12 ⟨rfl, s12⟩
        refine iteF ⟨(B11.same s12).le (by omega), (Same.own S10 k11 npH).trans s12, hF11.same s12, hS11.same s12, l', rs', _, _, _, s12 _ _ wl', nlp', rl', fun r hr => ⟨s12 _ _ (hrs' r hr).1, (hrs' r hr).2.1, (hrs' r hr).2.2.1, by have := (hrs' r hr).2.2.2.1; omega, (hrs' r hr).2.2.2.2⟩, rfl⟩
      · rintro σ H10 ⟨B10, S10, hF10, hS10, l, rs, y6, y7, y8, wl, nlp, rl, hrs, rfl⟩
        -- words
        obtain ⟨kv10, wd10, ht10⟩ := hF10.ex
        refine ⟨_, rfl, d, kv10, us.map (·.1), rfl, .inl wd10, ht10.keys, by rw [List.length_map]; omega, fun ys w7 hy hs nw7 => ?_⟩
        obtain rfl := srt_of hy hs
        obtain ⟨words, hwords⟩ : ∃ words, srt (us.map (·.1)) = words := ⟨_, rfl⟩
        rw [hwords]
        have wnd : words.Nodup := by rw [← hwords]; exact srt_nodup hN.nd
        have wlen : words.length = us.length := by rw [← hwords, srt_len, List.length_map]
        have wnm : ∀ y ∈ words, Nm y := fun y hy => hN.nm y (by rw [← hwords] at hy; exact srt_mem.mp hy)
        generalize hE11 : upd H10 w7 _ = H11
        have ww11 : SAt H11 w7 words := new_at hE11
        have s11 := new_same hE11 nw7
        have B11 := B10.same s11
        have npw : w7 ≠ p := (B10.ne nw7).symm
        have S11 := S10.trans s11
        -- some_here
        refine ⟨_, rfl, by decide, by decide, fun D nD => ?_⟩
        have npD : p ≠ D := B11.ne nD
        refine lc_range (lo := 0) (n := (4 : Int).toNat) (fun j H' => Bag (5000 + 40 * j) H' p ∧ Kp p H11 H' ∧ ∃ rs : List (Addr × List Str), rs.length = j ∧ H' D = some (.lst (rs.map fun r => V.ref r.1)) ∧ ∀ r ∈ rs, SAt H' r.1 r.2 ∧ r.1 ≠ D ∧ r.1 ≠ p ∧ r.2.Nodup ∧ r.2.length ≤ 40 ∧ ∀ y ∈ r.2, PyData.strOk y = true)
          ⟨(B11.same (same_upd nD)).le (by omega), Kp.of (same_upd nD), [], rfl, upd_same, fun r h => nomatch h⟩ ?_ ?_
        · rintro j H12 hj ⟨B12, k12, rs2, rl2, w12, hrs2⟩
          have hj4 : j < 4 := hj
          have ww12 : SAt H12 w7 words := k12 _ _ ww11 npw
          refine ⟨rfl, yes_of (iteT ?_)⟩
          refine ⟨_, rfl, _, rfl, _, rfl, w7, _, rfl, .inl (SqL.of ww12), by show 2 ≤ sizeLine; decide, fun l6 n6 => ⟨_, rfl, ?_⟩⟩
          refine pick_menu [.int 2, .int ((words.map V.str).length : Int)] B12 (by omega) n6 rfl (by show 0 < 2; decide) (by show 2 < 1000; decide) fun z H13 hz B13 k13 => ?_
          obtain ⟨c, rfl, hc⟩ : ∃ c : Nat, z = .int c ∧ c ≤ 16 := by
            simp only [List.mem_cons, List.not_mem_nil, or_false] at hz
            rcases hz with rfl | rfl
            · exact ⟨2, rfl, by decide⟩
            · exact ⟨_, rfl, by rw [List.length_map]; omega⟩
          refine ⟨p, w7, c, _, words, rfl, B13, by omega, by omega, SqL.of (k13 _ _ ww12 npw), npw, wnd, by omega, wnm, fun zs t2 H14 zn zm zl nt2 wt2 B14 k14 => ?_⟩
          refine ⟨t2, zs, rfl, SqT.of wt2, by omega, fun g ng => ?_⟩
          generalize hE15 : upd H14 g _ = H15
          have wg : SAt H15 g (srt zs) := new_at hE15
          have s15 := new_same hE15 ng
          have k1215 : Kp p H12 H15 := (k13.trans k14).same s15
          have wD15 := k1215 _ _ w12 npD.symm
          have B15 := B14.same s15
          have ngD : g ≠ D := (ne_some ((k13.trans k14) _ _ w12 npD.symm) ng).symm
          have ngp : g ≠ p := (B14.ne ng).symm
          refine ⟨_, wD15, by rw [List.length_map]; exact small1000 (by omega), (B15.keep (mut_keep rfl) npD).le (by omega), (k12.trans k1215).own (mut_keep rfl) nD, rs2 ++ [(g, srt zs)], by rw [List.length_append, rl2]; rfl, by rw [upd_same, List.map_append]; rfl, fun r hr => ?_⟩
          rcases List.mem_append.mp hr with hr | hr
          · obtain ⟨u1, u2, u3, u4⟩ := hrs2 r hr
            exact ⟨mut_keep rfl _ _ (k1215 _ _ u1 u3) u2, u2, u3, u4⟩
          · rw [List.mem_singleton.mp hr]
            exact ⟨mut_keep rfl _ _ wg ngD, ngD, ngp, srt_nodup zn, by rw [srt_len]; omega, fun y hy => (wnm y (zm y (srt_mem.mp hy))).ok⟩
        · rintro H12 ⟨B12, k12, rs2, rl2, w12, hrs2⟩
          have rl2' : rs2.length = 4 := rl2
          have hF12 := (hF10.same s11).keepB k12 B11
          have hS12 := (hS10.same s11).keepB k12 B11
          have S12 : Same H H12 := Same.own S11 k12 npH
          have ww12 : SAt H12 w7 words := k12 _ _ ww11 npw
          obtain ⟨s', R', few', ok', wn'⟩ := rows_any rl2' w12 fun r hr => ⟨(hrs2 r hr).1, (hrs2 r hr).2.2.2⟩
          have wordsok : ∀ y ∈ words, PyData.strOk y = true := fun y hy => (wnm y hy).ok
          refine ⟨fun b H' => b = false ∧ Same H12 H', ?_, ?_⟩
          · refine ⟨_, rfl, _, rfl, _, rfl, d, x, D, us, s', rfl, hF12, hNB, hS12, hself, R', few', ok', wn', fun H13 s13 => ⟨_, rfl, iteF ?_⟩⟩
            refine ⟨_, rfl, _, rfl, _, rfl, by show 0 ≤ sizeLine; decide, fun e1 ne1 => ?_⟩
            generalize hE14 : upd H13 e1 _ = H14
            have we1 : SAt H14 e1 [] := new_at hE14
            have s14 := new_same hE14 ne1
            refine ⟨by show 0 ≤ sizeLine; decide, fun e2 ne2 => ?_⟩
            generalize hE15 : upd H14 e2 _ = H15
            have we2 : SAt H15 e2 [] := new_at hE15
            have s15 := new_same hE15 ne2
            refine ⟨by show 0 ≤ sizeLine; decide, fun e3 ne3 => ?_⟩
            generalize hE16 : upd H15 e3 _ = H16
            have we3 : SAt H16 e3 [] := new_at hE16
            have s16 := new_same hE16 ne3
            refine ⟨by show 4 ≤ sizeLine; decide, fun e4 ne4 => ?_⟩
            generalize hE17 : upd H16 e4 _ = H17
            have we4 := new_at hE17
            have s17 := new_same hE17 ne4
            have s1217 := (((s13.trans s14).trans s15).trans s16).trans s17
            refine ⟨d, x, e4, us, ⟨words, [], [], []⟩, rfl, hF12.same s1217, hNB, hS12.same s1217, hself, ⟨w7, e1, e2, e3, we4, s1217 _ _ ww12, s17 _ _ (s16 _ _ (s15 _ _ we1)), s17 _ _ (s16 _ _ we2), s17 _ _ we3⟩, ⟨by show words.length ≤ 40; omega, Nat.zero_le _, Nat.zero_le _, Nat.zero_le _⟩, fun y hy => wordsok y (by simpa using hy), wnd, fun H18 s18 => ⟨_, rfl, rfl, s1217.trans s18⟩⟩
          rintro b H13 ⟨rfl, s13⟩
          refine iteF ?_
          refine ⟨fun b H' => b = false ∧ Same H13 H', ?_, ?_⟩
          · refine ⟨_, rfl, _, rfl, _, rfl, _, rfl, by show 0 ≤ sizeLine; decide, fun e1 ne1 => ?_⟩
            generalize hE14 : upd H13 e1 _ = H14
            have we1 : SAt H14 e1 [] := new_at hE14
            have s14 := new_same hE14 ne1
            refine ⟨by show 0 ≤ sizeLine; decide, fun e2 ne2 => ?_⟩
            generalize hE15 : upd H14 e2 _ = H15
            have we2 : SAt H15 e2 [] := new_at hE15
            have s15 := new_same hE15 ne2
            refine ⟨by show 4 ≤ sizeLine; decide, fun e4 ne4 => ?_⟩
            generalize hE17 : upd H15 e4 _ = H17
            have we4 := new_at hE17
            have s17 := new_same hE17 ne4
            have s1317 := (s14.trans s15).trans s17
            have s1217 := s13.trans s1317
            refine ⟨d, x, e4, us, ⟨words, words, [], []⟩, rfl, hF12.same s1217, hNB, hS12.same s1217, hself, ⟨w7, w7, e1, e2, we4, s1217 _ _ ww12, s1217 _ _ ww12, s17 _ _ (s15 _ _ we1), s17 _ _ we2⟩, ⟨by show words.length ≤ 40; omega, by show words.length ≤ 40; omega, Nat.zero_le _, Nat.zero_le _⟩, fun y hy => wordsok y (by simpa using hy), wnd, fun H18 s18 => ⟨_, rfl, rfl, s1317.trans s18⟩⟩
          rintro b H14 ⟨rfl, s14⟩
          exact iteF ⟨S12.trans (s13.trans s14), _, _, _, _, _, _, _, _, rfl⟩
    · rintro σ H1 ⟨s1, y1, y2, y3, y4, y5, y6, y7, y8, rfl⟩
      refine fun x dx nx' ndx nex => ?_
      refine ⟨x, dx, _, [], [], rfl, upd_same, .inr (T.e1_Shelf_init _), .nil, ⟨List.nodup_nil, Nat.zero_le _, fun z hz => nomatch hz⟩, fun H2 hSh kp2 => ⟨rfl, ?_⟩⟩
      refine ⟨rfl, rfl, fun pa da npa nda nea => ?_⟩
      refine ⟨pa, da, _, _, _, _, rfl, upd_same, fun H3 wpa kpa => ⟨rfl, ?_⟩⟩
      have s3 : Same H2 H3 := Same.made npa nda fun b o e n => kpa b o e n
      have wself : ∀ w : Str, w ∉ wt [] w := fun w z => nomatch (wt_mem.mp z).1
      have hfit : Fits [] ⟨[], [], [], []⟩ := ⟨(fun x hx => nomatch hx), List.nodup_nil, (fun x hx => nomatch hx), (fun x hx => nomatch hx), fun ⟨S, hne, hS, _⟩ => by
        cases S with
        | nil => exact hne rfl
        | cons x r => exact nomatch hS x (List.mem_cons_self ..)⟩
      refine ⟨x, pa, [], ⟨[], [], [], []⟩, rfl, hSh.same s3, ⟨List.nodup_nil, Nat.zero_le _, fun z hz => nomatch hz⟩, (fun q hq => nomatch hq), wself, ⟨da, _, _, _, _, wpa, T.e0_Stand_init_wished H3, T.e0_Stand_init_up H3, T.e0_Stand_init_later H3, T.e0_Stand_init_back H3⟩, ⟨Nat.zero_le _, Nat.zero_le _, Nat.zero_le _, Nat.zero_le _⟩, List.nodup_nil, fun H4 s4 => ?_⟩
      rw [@decide_eq_true _ (Classical.propDecidable _) hfit]
      exact ⟨true, true, rfl, rfl, q _⟩

-- SPLIT
end
theorem kb_Rule_init_1_first_times_top_burst_span_mk {K : PySem.W.Frag} {f : Addr} {fd : FuncData} (F : FunD K "__init__" "Rule.__init__" (defArgs s_Rule_init) (defBody s_Rule_init) (defScope s_Rule_init) [] [("first", V.int 1), ("times", V.int 2), ("top", V.int 64), ("burst", V.int 5), ("span", V.int 100)] f fd) : ∃ gg, KBn K fd ["self", "first", "times", "top", "burst", "span"] 1 ["first", "times", "top", "burst", "span"] gg (fun us ws => us ++ (ws.drop 0).take 1 ++ (ws.drop 1).take 1 ++ (ws.drop 2).take 1 ++ (ws.drop 3).take 1 ++ (ws.drop 4).take 1) := by
  obtain ⟨mv, h⟩ := F.kbinds0 (ps := ["self", "first", "times", "top", "burst", "span"]) 1 ["first", "times", "top", "burst", "span"] [] (fun us mv ws => us ++ (ws.drop 0).take 1 ++ (ws.drop 1).take 1 ++ (ws.drop 2).take 1 ++ (ws.drop 3).take 1 ++ (ws.drop 4).take 1) (by intro z; cases z) (by simp) (fun r1 r2 r3 => (((((r1.append (vals_take ((r3).drop 0) 1)).append (vals_take ((r3).drop 1) 1)).append (vals_take ((r3).drop 2) 1)).append (vals_take ((r3).drop 3) 1)).append (vals_take ((r3).drop 4) 1))) (fun D doc pm an cdv ct us mv ws h1 h2 h3 => match us, mv, ws, h1, h2, h3 with | [_], [], [_, _, _, _, _], _, _, _ => rfl)
  exact ⟨_, h⟩
theorem kb_Unit_init_2_kind_needs_wants_bars_after_opens_rule_mk {K : PySem.W.Frag} {f : Addr} {fd : FuncData} (F : FunD K "__init__" "Unit.__init__" (defArgs s_Unit_init) (defBody s_Unit_init) (defScope s_Unit_init) [] [("kind", V.str "work"), ("needs", V.ref (UO.kwAdr K ("Unit", some "__init__") "needs")), ("wants", V.ref (UO.kwAdr K ("Unit", some "__init__") "wants")), ("bars", V.ref (UO.kwAdr K ("Unit", some "__init__") "bars")), ("after", V.ref (UO.kwAdr K ("Unit", some "__init__") "after")), ("opens", V.non), ("rule", V.non)] f fd) : ∃ gg, KBn K fd ["self", "name", "kind", "needs", "wants", "bars", "after", "opens", "rule"] 2 ["kind", "needs", "wants", "bars", "after", "opens", "rule"] gg (fun us ws => us ++ (ws.drop 0).take 1 ++ (ws.drop 1).take 1 ++ (ws.drop 2).take 1 ++ (ws.drop 3).take 1 ++ (ws.drop 4).take 1 ++ (ws.drop 5).take 1 ++ (ws.drop 6).take 1) := by
  obtain ⟨mv, h⟩ := F.kbinds0 (ps := ["self", "name", "kind", "needs", "wants", "bars", "after", "opens", "rule"]) 2 ["kind", "needs", "wants", "bars", "after", "opens", "rule"] [] (fun us mv ws => us ++ (ws.drop 0).take 1 ++ (ws.drop 1).take 1 ++ (ws.drop 2).take 1 ++ (ws.drop 3).take 1 ++ (ws.drop 4).take 1 ++ (ws.drop 5).take 1 ++ (ws.drop 6).take 1) (by intro z; cases z) (by simp) (fun r1 r2 r3 => (((((((r1.append (vals_take ((r3).drop 0) 1)).append (vals_take ((r3).drop 1) 1)).append (vals_take ((r3).drop 2) 1)).append (vals_take ((r3).drop 3) 1)).append (vals_take ((r3).drop 4) 1)).append (vals_take ((r3).drop 5) 1)).append (vals_take ((r3).drop 6) 1))) (fun D doc pm an cdv ct us mv ws h1 h2 h3 => match us, mv, ws, h1, h2, h3 with | [_, _], [], [_, _, _, _, _, _, _], _, _, _ => rfl)
  exact ⟨_, h⟩
theorem kb_Stand_init_1_wished_up_later_back_mk {K : PySem.W.Frag} {f : Addr} {fd : FuncData} (F : FunD K "__init__" "Stand.__init__" (defArgs s_Stand_init) (defBody s_Stand_init) (defScope s_Stand_init) [] [("wished", V.ref (UO.kwAdr K ("Stand", some "__init__") "wished")), ("up", V.ref (UO.kwAdr K ("Stand", some "__init__") "up")), ("later", V.ref (UO.kwAdr K ("Stand", some "__init__") "later")), ("back", V.ref (UO.kwAdr K ("Stand", some "__init__") "back"))] f fd) : ∃ gg, KBn K fd ["self", "wished", "up", "later", "back"] 1 ["wished", "up", "later", "back"] gg (fun us ws => us ++ (ws.drop 0).take 1 ++ (ws.drop 1).take 1 ++ (ws.drop 2).take 1 ++ (ws.drop 3).take 1) := by
  obtain ⟨mv, h⟩ := F.kbinds0 (ps := ["self", "wished", "up", "later", "back"]) 1 ["wished", "up", "later", "back"] [] (fun us mv ws => us ++ (ws.drop 0).take 1 ++ (ws.drop 1).take 1 ++ (ws.drop 2).take 1 ++ (ws.drop 3).take 1) (by intro z; cases z) (by simp) (fun r1 r2 r3 => ((((r1.append (vals_take ((r3).drop 0) 1)).append (vals_take ((r3).drop 1) 1)).append (vals_take ((r3).drop 2) 1)).append (vals_take ((r3).drop 3) 1))) (fun D doc pm an cdv ct us mv ws h1 h2 h3 => match us, mv, ws, h1, h2, h3 with | [_], [], [_, _, _, _], _, _, _ => rfl)
  exact ⟨_, h⟩
theorem kb_fits_0_stand_shelf_mk {K : PySem.W.Frag} {f : Addr} {fd : FuncData} (F : FunD K "fits" "fits" (defArgs s_fits) (defBody s_fits) (defScope s_fits) [] [] f fd) : ∃ gg, KBn K fd ["shelf", "stand"] 0 ["stand", "shelf"] gg (fun us ws => us ++ (ws.drop 1).take 1 ++ (ws.drop 0).take 1) := by
  obtain ⟨oc, od, dV, kV, doc, pm, an, cdv, ct, osl, rfl, lk, hcd, hD, hK⟩ := F.ex
  rcases hD with ⟨_, rfl⟩ | ⟨e, _⟩
  · refine ⟨fun us ws => us ++ (ws.drop 1).take 1 ++ (ws.drop 0).take 1, ⟨fun s us ws X l1 l2 => ?_, fun r1 r3 => ((r1.append (vals_take ((r3).drop 1) 1)).append (vals_take ((r3).drop 0) 1))⟩⟩
    match us, ws, l1, l2 with | [], [_, _], _, _ => exact .of_eq rfl
  · exact absurd rfl e
theorem kb_Stand_init_1_none_mk {K : PySem.W.Frag} {f : Addr} {fd : FuncData} (F : FunD K "__init__" "Stand.__init__" (defArgs s_Stand_init) (defBody s_Stand_init) (defScope s_Stand_init) [] [("wished", V.ref (UO.kwAdr K ("Stand", some "__init__") "wished")), ("up", V.ref (UO.kwAdr K ("Stand", some "__init__") "up")), ("later", V.ref (UO.kwAdr K ("Stand", some "__init__") "later")), ("back", V.ref (UO.kwAdr K ("Stand", some "__init__") "back"))] f fd) : ∃ gg, KBn K fd ["self", "wished", "up", "later", "back"] 1 [] gg (fun us ws => us ++ ([V.ref (UO.kwAdr K ("Stand", some "__init__") "wished"), V.ref (UO.kwAdr K ("Stand", some "__init__") "up"), V.ref (UO.kwAdr K ("Stand", some "__init__") "later"), V.ref (UO.kwAdr K ("Stand", some "__init__") "back")].drop 0).take 1 ++ ([V.ref (UO.kwAdr K ("Stand", some "__init__") "wished"), V.ref (UO.kwAdr K ("Stand", some "__init__") "up"), V.ref (UO.kwAdr K ("Stand", some "__init__") "later"), V.ref (UO.kwAdr K ("Stand", some "__init__") "back")].drop 1).take 1 ++ ([V.ref (UO.kwAdr K ("Stand", some "__init__") "wished"), V.ref (UO.kwAdr K ("Stand", some "__init__") "up"), V.ref (UO.kwAdr K ("Stand", some "__init__") "later"), V.ref (UO.kwAdr K ("Stand", some "__init__") "back")].drop 2).take 1 ++ ([V.ref (UO.kwAdr K ("Stand", some "__init__") "wished"), V.ref (UO.kwAdr K ("Stand", some "__init__") "up"), V.ref (UO.kwAdr K ("Stand", some "__init__") "later"), V.ref (UO.kwAdr K ("Stand", some "__init__") "back")].drop 3).take 1) := by
  obtain ⟨mv, h⟩ := F.kbinds0 (ps := ["self", "wished", "up", "later", "back"]) 1 [] [("wished", V.ref (UO.kwAdr K ("Stand", some "__init__") "wished")), ("up", V.ref (UO.kwAdr K ("Stand", some "__init__") "up")), ("later", V.ref (UO.kwAdr K ("Stand", some "__init__") "later")), ("back", V.ref (UO.kwAdr K ("Stand", some "__init__") "back"))] (fun us mv ws => us ++ (mv.drop 0).take 1 ++ (mv.drop 1).take 1 ++ (mv.drop 2).take 1 ++ (mv.drop 3).take 1) (by intro z; cases z) (by simp) (fun r1 r2 r3 => ((((r1.append (vals_take ((r2).drop 0) 1)).append (vals_take ((r2).drop 1) 1)).append (vals_take ((r2).drop 2) 1)).append (vals_take ((r2).drop 3) 1))) (fun D doc pm an cdv ct us mv ws h1 h2 h3 => match us, mv, ws, h1, h2, h3 with | [_], [_, _, _, _], [], _, _, _ => ⟨_, _, _, _, _, _, rfl, rfl, ⟨_, _, _, _, _, _, rfl, rfl, ⟨_, _, _, _, _, _, rfl, rfl, ⟨_, _, _, _, _, _, rfl, rfl, rfl⟩⟩⟩⟩)
  exact ⟨_, h⟩
def dd_next_in : He.DefD := ⟨("next_in", none), "next_in", "next_in", defArgs s_next_in, defBody s_next_in, defScope s_next_in, [], []⟩
def dd_free_order : He.DefD := ⟨("free_order", none), "free_order", "free_order", defArgs s_free_order, defBody s_free_order, defScope s_free_order, [], []⟩
def dd_ring_in : He.DefD := ⟨("ring_in", none), "ring_in", "ring_in", defArgs s_ring_in, defBody s_ring_in, defScope s_ring_in, [], []⟩
def dd_knot_in : He.DefD := ⟨("knot_in", none), "knot_in", "knot_in", defArgs s_knot_in, defBody s_knot_in, defScope s_knot_in, [], []⟩
def dd_Stand_init : He.DefD := ⟨("Stand", some "__init__"), "__init__", "Stand.__init__", defArgs s_Stand_init, defBody s_Stand_init, defScope s_Stand_init, [], [("wished", .adr (fun K => UO.kwAdr K ("Stand", some "__init__") "wished")), ("up", .adr (fun K => UO.kwAdr K ("Stand", some "__init__") "up")), ("later", .adr (fun K => UO.kwAdr K ("Stand", some "__init__") "later")), ("back", .adr (fun K => UO.kwAdr K ("Stand", some "__init__") "back"))]⟩
def dd_open_in : He.DefD := ⟨("open_in", none), "open_in", "open_in", defArgs s_open_in, defBody s_open_in, defScope s_open_in, [], []⟩
def dd_all_there : He.DefD := ⟨("all_there", none), "all_there", "all_there", defArgs s_all_there, defBody s_all_there, defScope s_all_there, [], []⟩
def dd_needs_wished : He.DefD := ⟨("needs_wished", none), "needs_wished", "needs_wished", defArgs s_needs_wished, defBody s_needs_wished, defScope s_needs_wished, [], []⟩
def dd_none_barred : He.DefD := ⟨("none_barred", none), "none_barred", "none_barred", defArgs s_none_barred, defBody s_none_barred, defScope s_none_barred, [], []⟩
def dd_fits : He.DefD := ⟨("fits", none), "fits", "fits", defArgs s_fits, defBody s_fits, defScope s_fits, [], []⟩
def dd_Rule_init : He.DefD := ⟨("Rule", some "__init__"), "__init__", "Rule.__init__", defArgs s_Rule_init, defBody s_Rule_init, defScope s_Rule_init, [], [("first", .int 1), ("times", .int 2), ("top", .int 64), ("burst", .int 5), ("span", .int 100)]⟩
def dd_Shelf_init : He.DefD := ⟨("Shelf", some "__init__"), "__init__", "Shelf.__init__", defArgs s_Shelf_init, defBody s_Shelf_init, defScope s_Shelf_init, [.adr (He.dflAt ("Shelf", some "__init__") 0)], []⟩
def dd_Shelf_names : He.DefD := ⟨("Shelf", some "names"), "names", "Shelf.names", defArgs s_Shelf_names, defBody s_Shelf_names, defScope s_Shelf_names, [], []⟩
def dd_Shelf_has : He.DefD := ⟨("Shelf", some "has"), "has", "Shelf.has", defArgs s_Shelf_has, defBody s_Shelf_has, defScope s_Shelf_has, [], []⟩
def dd_Shelf_unit : He.DefD := ⟨("Shelf", some "unit"), "unit", "Shelf.unit", defArgs s_Shelf_unit, defBody s_Shelf_unit, defScope s_Shelf_unit, [], []⟩
def dd_Shelf_barred : He.DefD := ⟨("Shelf", some "barred"), "barred", "Shelf.barred", defArgs s_Shelf_barred, defBody s_Shelf_barred, defScope s_Shelf_barred, [], []⟩
def dd_Shelf_waited : He.DefD := ⟨("Shelf", some "waited"), "waited", "Shelf.waited", defArgs s_Shelf_waited, defBody s_Shelf_waited, defScope s_Shelf_waited, [], []⟩
def dd_Unit_init : He.DefD := ⟨("Unit", some "__init__"), "__init__", "Unit.__init__", defArgs s_Unit_init, defBody s_Unit_init, defScope s_Unit_init, [], [("kind", .str "work"), ("needs", .adr (fun K => UO.kwAdr K ("Unit", some "__init__") "needs")), ("wants", .adr (fun K => UO.kwAdr K ("Unit", some "__init__") "wants")), ("bars", .adr (fun K => UO.kwAdr K ("Unit", some "__init__") "bars")), ("after", .adr (fun K => UO.kwAdr K ("Unit", some "__init__") "after")), ("opens", .non), ("rule", .non)]⟩
def dd_law_bag : He.DefD := ⟨("_law_bag", none), "_law_bag", "_law_bag", defArgs s_law_bag, defBody s_law_bag, defScope s_law_bag, [], []⟩
def dd_law_take : He.DefD := ⟨("_law_take", none), "_law_take", "_law_take", defArgs s_law_take, defBody s_law_take, defScope s_law_take, [], []⟩
def dd_law_name : He.DefD := ⟨("_law_name", none), "_law_name", "_law_name", defArgs s_law_name, defBody s_law_name, defScope s_law_name, [], []⟩
def dd_law_names : He.DefD := ⟨("_law_names", none), "_law_names", "_law_names", defArgs s_law_names, defBody s_law_names, defScope s_law_names, [], []⟩
def dd_law_rule_parts : He.DefD := ⟨("_law_rule_parts", none), "_law_rule_parts", "_law_rule_parts", defArgs s_law_rule_parts, defBody s_law_rule_parts, defScope s_law_rule_parts, [], []⟩
def dd_law_rule : He.DefD := ⟨("_law_rule", none), "_law_rule", "_law_rule", defArgs s_law_rule, defBody s_law_rule, defScope s_law_rule, [], []⟩
def dd_law_some : He.DefD := ⟨("_law_some", none), "_law_some", "_law_some", defArgs s_law_some, defBody s_law_some, defScope s_law_some, [], []⟩
def dd_law_facts : He.DefD := ⟨("_law_facts", none), "_law_facts", "_law_facts", defArgs s_law_facts, defBody s_law_facts, defScope s_law_facts, [], []⟩
def dd_law_unit : He.DefD := ⟨("_law_unit", none), "_law_unit", "_law_unit", defArgs s_law_unit, defBody s_law_unit, defScope s_law_unit, [], []⟩
def dd_law_units : He.DefD := ⟨("_law_units", none), "_law_units", "_law_units", defArgs s_law_units, defBody s_law_units, defScope s_law_units, [], []⟩
def dd_law_needing : He.DefD := ⟨("_law_needing", none), "_law_needing", "_law_needing", defArgs s_law_needing, defBody s_law_needing, defScope s_law_needing, [], []⟩
def dd_law_barred : He.DefD := ⟨("_law_barred", none), "_law_barred", "_law_barred", defArgs s_law_barred, defBody s_law_barred, defScope s_law_barred, [], []⟩
def dd_law_next : He.DefD := ⟨("_law_next", none), "_law_next", "_law_next", defArgs s_law_next, defBody s_law_next, defScope s_law_next, [], []⟩
def dd_law_followed : He.DefD := ⟨("_law_followed", none), "_law_followed", "_law_followed", defArgs s_law_followed, defBody s_law_followed, defScope s_law_followed, [], []⟩
def dd_law_lacks : He.DefD := ⟨("_law_lacks", none), "_law_lacks", "_law_lacks", defArgs s_law_lacks, defBody s_law_lacks, defScope s_law_lacks, [], []⟩
def dd_law_clash : He.DefD := ⟨("_law_clash", none), "_law_clash", "_law_clash", defArgs s_law_clash, defBody s_law_clash, defScope s_law_clash, [], []⟩
def dd_law_ways : He.DefD := ⟨("_law_ways", none), "_law_ways", "_law_ways", defArgs s_law_ways, defBody s_law_ways, defScope s_law_ways, [], []⟩
def dd_law_waited : He.DefD := ⟨("_law_waited", none), "_law_waited", "_law_waited", defArgs s_law_waited, defBody s_law_waited, defScope s_law_waited, [], []⟩
def dd_law_knotted : He.DefD := ⟨("_law_knotted", none), "_law_knotted", "_law_knotted", defArgs s_law_knotted, defBody s_law_knotted, defScope s_law_knotted, [], []⟩
def dd_law_stand_drawn : He.DefD := ⟨("_law_stand_drawn", none), "_law_stand_drawn", "_law_stand_drawn", defArgs s_law_stand_drawn, defBody s_law_stand_drawn, defScope s_law_stand_drawn, [], []⟩
def dd_law_due : He.DefD := ⟨("_law_due", none), "_law_due", "_law_due", defArgs s_law_due, defBody s_law_due, defScope s_law_due, [], []⟩
def dd_law_bent : He.DefD := ⟨("_law_bent", none), "_law_bent", "_law_bent", defArgs s_law_bent, defBody s_law_bent, defScope s_law_bent, [], []⟩
def dd_law_right : He.DefD := ⟨("_law_right", none), "_law_right", "_law_right", defArgs s_law_right, defBody s_law_right, defScope s_law_right, [], []⟩
def dd_law : He.DefD := ⟨("law", none), "law", "law", defArgs s_law, defBody s_law, defScope s_law, [], []⟩
def fn : List He.DefD := [dd_next_in, dd_free_order, dd_ring_in, dd_knot_in, dd_Stand_init, dd_open_in, dd_all_there, dd_needs_wished, dd_none_barred, dd_fits, dd_Rule_init, dd_Shelf_init, dd_Shelf_names, dd_Shelf_has, dd_Shelf_unit, dd_Shelf_barred, dd_Shelf_waited, dd_Unit_init, dd_law_bag, dd_law_take, dd_law_name, dd_law_names, dd_law_rule_parts, dd_law_rule, dd_law_some, dd_law_facts, dd_law_unit, dd_law_units, dd_law_needing, dd_law_barred, dd_law_next, dd_law_followed, dd_law_lacks, dd_law_clash, dd_law_ways, dd_law_waited, dd_law_knotted, dd_law_stand_drawn, dd_law_due, dd_law_bent, dd_law_right, dd_law]
def fa : List He.Fa := [.glo "next_in", .glo "free_order", .glo "ring_in", .glo "knot_in", .glo "open_in", .glo "all_there", .glo "needs_wished", .glo "none_barred", .glo "fits", .meth "Shelf" "names", .meth "Shelf" "has", .meth "Shelf" "unit", .meth "Shelf" "barred", .meth "Shelf" "waited", .glo "_law_bag", .glo "_law_take", .glo "_law_name", .glo "_law_names", .glo "_law_rule_parts", .glo "_law_rule", .glo "_law_some", .glo "_law_facts", .glo "_law_unit", .glo "_law_units", .glo "_law_needing", .glo "_law_barred", .glo "_law_next", .glo "_law_followed", .glo "_law_lacks", .glo "_law_clash", .glo "_law_ways", .glo "_law_waited", .glo "_law_knotted", .glo "_law_stand_drawn", .glo "_law_due", .glo "_law_bent", .glo "_law_right", .glo "law", .glo "Stand", .cls "Stand", .mkr "Stand", .noat "Stand" "wished", .noat "Stand" "up", .noat "Stand" "later", .noat "Stand" "back", .glo "Rule", .cls "Rule", .mkr "Rule", .noat "Rule" "first", .noat "Rule" "times", .noat "Rule" "top", .noat "Rule" "burst", .noat "Rule" "span", .glo "Shelf", .cls "Shelf", .mkr "Shelf", .noat "Shelf" "by_name", .glo "Unit", .cls "Unit", .mkr "Unit", .noat "Unit" "name", .noat "Unit" "kind", .noat "Unit" "needs", .noat "Unit" "wants", .noat "Unit" "bars", .noat "Unit" "after", .noat "Unit" "opens", .noat "Unit" "rule", .int "MOST" 16, .free "sorted", .free "all", .free "len", .free "any", .free "set", .free "isinstance", .free "str", .free "abs", .free "int", .free "range", .free "tuple", .free "list", .free "min", .free "bool", .free "max"]
abbrev R : PySem.W.OpenRow := PySem.W.OpenLaw.row PySem.Challenge.rw_unitwants_k19_fits
def exB (K : PySem.W.Frag) : Bool := UO.insB "Unit" K && UO.insB "Rule" K && UO.insB "Stand" K && UO.tup0B K (UO.kwAdr K ("Stand", some "__init__") "wished") && UO.tup0B K (UO.kwAdr K ("Stand", some "__init__") "up") && UO.tup0B K (UO.kwAdr K ("Stand", some "__init__") "later") && UO.tup0B K (UO.kwAdr K ("Stand", some "__init__") "back") && UO.tup0B K (UO.kwAdr K ("Unit", some "__init__") "needs") && UO.tup0B K (UO.kwAdr K ("Unit", some "__init__") "wants") && UO.tup0B K (UO.kwAdr K ("Unit", some "__init__") "bars") && UO.tup0B K (UO.kwAdr K ("Unit", some "__init__") "after") && UO.pairB "Unit" "Rule" K && UO.pairB "Unit" "Stand" K && UO.pairB "Rule" "Unit" K && UO.pairB "Rule" "Stand" K && UO.pairB "Stand" "Unit" K && UO.pairB "Stand" "Rule" K && UO.tup0B K (He.dflAt ("Shelf", some "__init__") 0 K)
abbrev hk : PySem.W.Hook := UO.hookB 6 fa fn exB
def ob (s : PySem.W.SharedT) : UO.AlB := UO.obsB 6 fa fn exB (HandSHeadRun.getT s)
theorem ob_eq (s : PySem.W.SharedT) : ob s = hk.obs s.abs := UO.obsB_eq (HandSHeadRun.getT_eq s)
set_option maxHeartbeats 0 in
theorem run (w : World) : HandSHeadRun.RunEq R (PySem.W.view R.prog [48]) hk ob 4000 ("_wall" :: "own_copy" :: "NoUnit" :: "NoShelf" :: "next_in" :: "free_order" :: "ring_in" :: "knot_in" :: "Stand" :: "open_in" :: "all_there" :: "needs_wished" :: "none_barred" :: "fits" :: "Rule" :: "Shelf" :: "Unit" :: "_law_bag" :: "_law_take" :: "_law_name" :: "_law_names" :: "_law_rule_parts" :: "_law_rule" :: "_law_some" :: "_law_facts" :: "_law_unit" :: "_law_units" :: "_law_needing" :: "_law_barred" :: "_law_next" :: "_law_followed" :: "_law_lacks" :: "_law_clash" :: "_law_ways" :: "_law_waited" :: "_law_knotted" :: "_law_stand_drawn" :: "_law_due" :: "_law_bent" :: "_law_right" :: "MOST" :: ([] : List PySem.Str)) w := by
  intro os
  kernel_rfl
theorem facts {P : Program} {w : World} {K : PySem.W.Frag} {h : Heap} {mg : Str → Option Value} {f : Addr} (X : K.In h) (G : h.Ns mainGlobals mg) (hfa : mg ("law" : Str) = some (.ref f)) (c : He.SaysD fa fn K) (cx : exB K = true) :
    ∃ fd : FuncData, (∀ (s : Shared) (v : Value), BindsTo s fd ⟨[v], []⟩ [("_law_script", v)]) ∧ ∀ base : Heap, K.In base → base.Ns mainGlobals mg → FnOk P w K mg base CX0 13 f fd ["_law_script"] (sp_law K) := by
  obtain ⟨d0, F0⟩ := c.def_ 0 (d := dd_next_in) rfl
  obtain ⟨d1, F1⟩ := c.def_ 1 (d := dd_free_order) rfl
  obtain ⟨d2, F2⟩ := c.def_ 2 (d := dd_ring_in) rfl
  obtain ⟨d3, F3⟩ := c.def_ 3 (d := dd_knot_in) rfl
  obtain ⟨d4, F4⟩ := c.def_ 4 (d := dd_Stand_init) rfl
  obtain ⟨d5, F5⟩ := c.def_ 5 (d := dd_open_in) rfl
  obtain ⟨d6, F6⟩ := c.def_ 6 (d := dd_all_there) rfl
  obtain ⟨d7, F7⟩ := c.def_ 7 (d := dd_needs_wished) rfl
  obtain ⟨d8, F8⟩ := c.def_ 8 (d := dd_none_barred) rfl
  obtain ⟨d9, F9⟩ := c.def_ 9 (d := dd_fits) rfl
  obtain ⟨d10, F10⟩ := c.def_ 10 (d := dd_Rule_init) rfl
  obtain ⟨d11, F11⟩ := c.def_ 11 (d := dd_Shelf_init) rfl
  obtain ⟨d12, F12⟩ := c.def_ 12 (d := dd_Shelf_names) rfl
  obtain ⟨d13, F13⟩ := c.def_ 13 (d := dd_Shelf_has) rfl
  obtain ⟨d14, F14⟩ := c.def_ 14 (d := dd_Shelf_unit) rfl
  obtain ⟨d15, F15⟩ := c.def_ 15 (d := dd_Shelf_barred) rfl
  obtain ⟨d16, F16⟩ := c.def_ 16 (d := dd_Shelf_waited) rfl
  obtain ⟨d17, F17⟩ := c.def_ 17 (d := dd_Unit_init) rfl
  obtain ⟨d18, F18⟩ := c.def_ 18 (d := dd_law_bag) rfl
  obtain ⟨d19, F19⟩ := c.def_ 19 (d := dd_law_take) rfl
  obtain ⟨d20, F20⟩ := c.def_ 20 (d := dd_law_name) rfl
  obtain ⟨d21, F21⟩ := c.def_ 21 (d := dd_law_names) rfl
  obtain ⟨d22, F22⟩ := c.def_ 22 (d := dd_law_rule_parts) rfl
  obtain ⟨d23, F23⟩ := c.def_ 23 (d := dd_law_rule) rfl
  obtain ⟨d24, F24⟩ := c.def_ 24 (d := dd_law_some) rfl
  obtain ⟨d25, F25⟩ := c.def_ 25 (d := dd_law_facts) rfl
  obtain ⟨d26, F26⟩ := c.def_ 26 (d := dd_law_unit) rfl
  obtain ⟨d27, F27⟩ := c.def_ 27 (d := dd_law_units) rfl
  obtain ⟨d28, F28⟩ := c.def_ 28 (d := dd_law_needing) rfl
  obtain ⟨d29, F29⟩ := c.def_ 29 (d := dd_law_barred) rfl
  obtain ⟨d30, F30⟩ := c.def_ 30 (d := dd_law_next) rfl
  obtain ⟨d31, F31⟩ := c.def_ 31 (d := dd_law_followed) rfl
  obtain ⟨d32, F32⟩ := c.def_ 32 (d := dd_law_lacks) rfl
  obtain ⟨d33, F33⟩ := c.def_ 33 (d := dd_law_clash) rfl
  obtain ⟨d34, F34⟩ := c.def_ 34 (d := dd_law_ways) rfl
  obtain ⟨d35, F35⟩ := c.def_ 35 (d := dd_law_waited) rfl
  obtain ⟨d36, F36⟩ := c.def_ 36 (d := dd_law_knotted) rfl
  obtain ⟨d37, F37⟩ := c.def_ 37 (d := dd_law_stand_drawn) rfl
  obtain ⟨d38, F38⟩ := c.def_ 38 (d := dd_law_due) rfl
  obtain ⟨d39, F39⟩ := c.def_ 39 (d := dd_law_bent) rfl
  obtain ⟨d40, F40⟩ := c.def_ 40 (d := dd_law_right) rfl
  obtain ⟨d41, F41⟩ := c.def_ 41 (d := dd_law) rfl
  let T : Txt K mg := {
    d_next_in := d0
    F_next_in := F0
    b_next_in := FunD.bindsN (ps := ["waiting", "order"]) F0 fun _ _ _ _ _ _ us hl => match us, hl with | [_, _], _ => rfl
    d_free_order := d1
    F_free_order := F1
    b_free_order := FunD.bindsN (ps := ["shelf", "names"]) F1 fun _ _ _ _ _ _ us hl => match us, hl with | [_, _], _ => rfl
    d_ring_in := d2
    F_ring_in := F2
    b_ring_in := FunD.bindsN (ps := ["shelf", "stuck"]) F2 fun _ _ _ _ _ _ us hl => match us, hl with | [_, _], _ => rfl
    d_knot_in := d3
    F_knot_in := F3
    b_knot_in := FunD.bindsN (ps := ["shelf", "names"]) F3 fun _ _ _ _ _ _ us hl => match us, hl with | [_, _], _ => rfl
    d_Stand_init := d4
    F_Stand_init := F4
    d_open_in := d5
    F_open_in := F5
    b_open_in := FunD.bindsN (ps := ["stand"]) F5 fun _ _ _ _ _ _ us hl => match us, hl with | [_], _ => rfl
    d_all_there := d6
    F_all_there := F6
    b_all_there := FunD.bindsN (ps := ["shelf", "stand"]) F6 fun _ _ _ _ _ _ us hl => match us, hl with | [_, _], _ => rfl
    d_needs_wished := d7
    F_needs_wished := F7
    b_needs_wished := FunD.bindsN (ps := ["shelf", "stand"]) F7 fun _ _ _ _ _ _ us hl => match us, hl with | [_, _], _ => rfl
    d_none_barred := d8
    F_none_barred := F8
    b_none_barred := FunD.bindsN (ps := ["shelf", "stand"]) F8 fun _ _ _ _ _ _ us hl => match us, hl with | [_, _], _ => rfl
    d_fits := d9
    F_fits := F9
    b_fits := FunD.bindsN (ps := ["shelf", "stand"]) F9 fun _ _ _ _ _ _ us hl => match us, hl with | [_, _], _ => rfl
    d_Rule_init := d10
    F_Rule_init := F10
    d_Shelf_init := d11
    F_Shelf_init := F11
    b2_Shelf_init := UP.binds_all (FunD.binds1 (ps := ["self", "units"]) F11 2 1 (List.cons_ne_nil _ _) rfl fun _ _ _ _ _ _ _ us its h1 h2 => match us, its, h1, h2 with | [_, _], [_], _, _ => ⟨_, rfl, rfl⟩)
    b1_Shelf_init := FunD.binds1 (ps := ["self", "units"]) F11 1 0 (List.cons_ne_nil _ _) rfl fun _ _ _ _ _ _ _ us its h1 h2 => match us, its, h1, h2 with | [_], [_], _, _ => ⟨_, rfl, rfl⟩
    d_Shelf_names := d12
    F_Shelf_names := F12
    b_Shelf_names := FunD.bindsN (ps := ["self"]) F12 fun _ _ _ _ _ _ us hl => match us, hl with | [_], _ => rfl
    d_Shelf_has := d13
    F_Shelf_has := F13
    b_Shelf_has := FunD.bindsN (ps := ["self", "name"]) F13 fun _ _ _ _ _ _ us hl => match us, hl with | [_, _], _ => rfl
    d_Shelf_unit := d14
    F_Shelf_unit := F14
    b_Shelf_unit := FunD.bindsN (ps := ["self", "name"]) F14 fun _ _ _ _ _ _ us hl => match us, hl with | [_, _], _ => rfl
    d_Shelf_barred := d15
    F_Shelf_barred := F15
    b_Shelf_barred := FunD.bindsN (ps := ["self", "name"]) F15 fun _ _ _ _ _ _ us hl => match us, hl with | [_, _], _ => rfl
    d_Shelf_waited := d16
    F_Shelf_waited := F16
    b_Shelf_waited := FunD.bindsN (ps := ["self", "name"]) F16 fun _ _ _ _ _ _ us hl => match us, hl with | [_, _], _ => rfl
    d_Unit_init := d17
    F_Unit_init := F17
    d_law_bag := d18
    F_law_bag := F18
    b_law_bag := FunD.bindsN (ps := ["_law_script", "_law_at"]) F18 fun _ _ _ _ _ _ us hl => match us, hl with | [_, _], _ => rfl
    d_law_take := d19
    F_law_take := F19
    b_law_take := FunD.bindsN (ps := ["_law_bag_here", "_law_size"]) F19 fun _ _ _ _ _ _ us hl => match us, hl with | [_, _], _ => rfl
    d_law_name := d20
    F_law_name := F20
    b_law_name := FunD.bindsN (ps := ["_law_bag_here"]) F20 fun _ _ _ _ _ _ us hl => match us, hl with | [_], _ => rfl
    d_law_names := d21
    F_law_names := F21
    b_law_names := FunD.bindsN (ps := ["_law_bag_here", "_law_size"]) F21 fun _ _ _ _ _ _ us hl => match us, hl with | [_, _], _ => rfl
    d_law_rule_parts := d22
    F_law_rule_parts := F22
    b_law_rule_parts := FunD.bindsN (ps := ["_law_bag_here"]) F22 fun _ _ _ _ _ _ us hl => match us, hl with | [_], _ => rfl
    d_law_rule := d23
    F_law_rule := F23
    b_law_rule := FunD.bindsN (ps := ["_law_five"]) F23 fun _ _ _ _ _ _ us hl => match us, hl with | [_], _ => rfl
    d_law_some := d24
    F_law_some := F24
    b_law_some := FunD.bindsN (ps := ["_law_bag_here", "_law_pool", "_law_most"]) F24 fun _ _ _ _ _ _ us hl => match us, hl with | [_, _, _], _ => rfl
    d_law_facts := d25
    F_law_facts := F25
    b_law_facts := FunD.bindsN (ps := ["_law_bag_here", "_law_most"]) F25 fun _ _ _ _ _ _ us hl => match us, hl with | [_, _], _ => rfl
    d_law_unit := d26
    F_law_unit := F26
    b_law_unit := FunD.bindsN (ps := ["_law_word", "_law_facts_here"]) F26 fun _ _ _ _ _ _ us hl => match us, hl with | [_, _], _ => rfl
    d_law_units := d27
    F_law_units := F27
    b_law_units := FunD.bindsN (ps := ["_law_facts_here"]) F27 fun _ _ _ _ _ _ us hl => match us, hl with | [_], _ => rfl
    d_law_needing := d28
    F_law_needing := F28
    b_law_needing := FunD.bindsN (ps := ["_law_facts_here", "_law_word"]) F28 fun _ _ _ _ _ _ us hl => match us, hl with | [_, _], _ => rfl
    d_law_barred := d29
    F_law_barred := F29
    b_law_barred := FunD.bindsN (ps := ["_law_facts_here", "_law_word"]) F29 fun _ _ _ _ _ _ us hl => match us, hl with | [_, _], _ => rfl
    d_law_next := d30
    F_law_next := F30
    b_law_next := FunD.bindsN (ps := ["_law_facts_here", "_law_demand"]) F30 fun _ _ _ _ _ _ us hl => match us, hl with | [_, _], _ => rfl
    d_law_followed := d31
    F_law_followed := F31
    b_law_followed := FunD.bindsN (ps := ["_law_facts_here", "_law_demands"]) F31 fun _ _ _ _ _ _ us hl => match us, hl with | [_, _], _ => rfl
    d_law_lacks := d32
    F_law_lacks := F32
    b_law_lacks := FunD.bindsN (ps := ["_law_facts_here", "_law_demands"]) F32 fun _ _ _ _ _ _ us hl => match us, hl with | [_, _], _ => rfl
    d_law_clash := d33
    F_law_clash := F33
    b_law_clash := FunD.bindsN (ps := ["_law_demands"]) F33 fun _ _ _ _ _ _ us hl => match us, hl with | [_], _ => rfl
    d_law_ways := d34
    F_law_ways := F34
    b_law_ways := FunD.bindsN (ps := ["_law_demands", "_law_way"]) F34 fun _ _ _ _ _ _ us hl => match us, hl with | [_, _], _ => rfl
    d_law_waited := d35
    F_law_waited := F35
    b_law_waited := FunD.bindsN (ps := ["_law_facts_here", "_law_word"]) F35 fun _ _ _ _ _ _ us hl => match us, hl with | [_, _], _ => rfl
    d_law_knotted := d36
    F_law_knotted := F36
    b_law_knotted := FunD.bindsN (ps := ["_law_facts_here", "_law_some_here"]) F36 fun _ _ _ _ _ _ us hl => match us, hl with | [_, _], _ => rfl
    d_law_stand_drawn := d37
    F_law_stand_drawn := F37
    b_law_stand_drawn := FunD.bindsN (ps := ["_law_bag_here", "_law_facts_here"]) F37 fun _ _ _ _ _ _ us hl => match us, hl with | [_, _], _ => rfl
    d_law_due := d38
    F_law_due := F38
    b_law_due := FunD.bindsN (ps := ["_law_facts_here", "_law_rows"]) F38 fun _ _ _ _ _ _ us hl => match us, hl with | [_, _], _ => rfl
    d_law_bent := d39
    F_law_bent := F39
    b_law_bent := FunD.bindsN (ps := ["_law_bag_here", "_law_facts_here", "_law_rows"]) F39 fun _ _ _ _ _ _ us hl => match us, hl with | [_, _, _], _ => rfl
    d_law_right := d40
    F_law_right := F40
    b_law_right := FunD.bindsN (ps := ["_law_facts_here", "_law_made", "_law_rows"]) F40 fun _ _ _ _ _ _ us hl => match us, hl with | [_, _, _], _ => rfl
    d_law := d41
    F_law := F41
    b_law := FunD.bindsN (ps := ["_law_script"]) F41 fun _ _ _ _ _ _ us hl => match us, hl with | [_], _ => rfl
    m_next_in := He.glo_ok X G (c.fact 0 (f := .glo "next_in") rfl)
    m_free_order := He.glo_ok X G (c.fact 1 (f := .glo "free_order") rfl)
    m_ring_in := He.glo_ok X G (c.fact 2 (f := .glo "ring_in") rfl)
    m_knot_in := He.glo_ok X G (c.fact 3 (f := .glo "knot_in") rfl)
    m_open_in := He.glo_ok X G (c.fact 4 (f := .glo "open_in") rfl)
    m_all_there := He.glo_ok X G (c.fact 5 (f := .glo "all_there") rfl)
    m_needs_wished := He.glo_ok X G (c.fact 6 (f := .glo "needs_wished") rfl)
    m_none_barred := He.glo_ok X G (c.fact 7 (f := .glo "none_barred") rfl)
    m_fits := He.glo_ok X G (c.fact 8 (f := .glo "fits") rfl)
    me_Shelf_names := He.meth_ok (c.fact 9 (f := .meth "Shelf" "names") rfl)
    me_Shelf_has := He.meth_ok (c.fact 10 (f := .meth "Shelf" "has") rfl)
    me_Shelf_unit := He.meth_ok (c.fact 11 (f := .meth "Shelf" "unit") rfl)
    me_Shelf_barred := He.meth_ok (c.fact 12 (f := .meth "Shelf" "barred") rfl)
    me_Shelf_waited := He.meth_ok (c.fact 13 (f := .meth "Shelf" "waited") rfl)
    m_law_bag := He.glo_ok X G (c.fact 14 (f := .glo "_law_bag") rfl)
    m_law_take := He.glo_ok X G (c.fact 15 (f := .glo "_law_take") rfl)
    m_law_name := He.glo_ok X G (c.fact 16 (f := .glo "_law_name") rfl)
    m_law_names := He.glo_ok X G (c.fact 17 (f := .glo "_law_names") rfl)
    m_law_rule_parts := He.glo_ok X G (c.fact 18 (f := .glo "_law_rule_parts") rfl)
    m_law_rule := He.glo_ok X G (c.fact 19 (f := .glo "_law_rule") rfl)
    m_law_some := He.glo_ok X G (c.fact 20 (f := .glo "_law_some") rfl)
    m_law_facts := He.glo_ok X G (c.fact 21 (f := .glo "_law_facts") rfl)
    m_law_unit := He.glo_ok X G (c.fact 22 (f := .glo "_law_unit") rfl)
    m_law_units := He.glo_ok X G (c.fact 23 (f := .glo "_law_units") rfl)
    m_law_needing := He.glo_ok X G (c.fact 24 (f := .glo "_law_needing") rfl)
    m_law_barred := He.glo_ok X G (c.fact 25 (f := .glo "_law_barred") rfl)
    m_law_next := He.glo_ok X G (c.fact 26 (f := .glo "_law_next") rfl)
    m_law_followed := He.glo_ok X G (c.fact 27 (f := .glo "_law_followed") rfl)
    m_law_lacks := He.glo_ok X G (c.fact 28 (f := .glo "_law_lacks") rfl)
    m_law_clash := He.glo_ok X G (c.fact 29 (f := .glo "_law_clash") rfl)
    m_law_ways := He.glo_ok X G (c.fact 30 (f := .glo "_law_ways") rfl)
    m_law_waited := He.glo_ok X G (c.fact 31 (f := .glo "_law_waited") rfl)
    m_law_knotted := He.glo_ok X G (c.fact 32 (f := .glo "_law_knotted") rfl)
    m_law_stand_drawn := He.glo_ok X G (c.fact 33 (f := .glo "_law_stand_drawn") rfl)
    m_law_due := He.glo_ok X G (c.fact 34 (f := .glo "_law_due") rfl)
    m_law_bent := He.glo_ok X G (c.fact 35 (f := .glo "_law_bent") rfl)
    m_law_right := He.glo_ok X G (c.fact 36 (f := .glo "_law_right") rfl)
    m_law := He.glo_ok X G (c.fact 37 (f := .glo "law") rfl)
    m_Stand := He.glo_ok X G (c.fact 38 (f := .glo "Stand") rfl)
    cl_Stand := He.cls_ok (c.fact 39 (f := .cls "Stand") rfl)
    mk_Stand := He.mkr_ok (c.fact 40 (f := .mkr "Stand") rfl)
    na_Stand_wished := He.noat_ok (c.fact 41 (f := .noat "Stand" "wished") rfl)
    na_Stand_up := He.noat_ok (c.fact 42 (f := .noat "Stand" "up") rfl)
    na_Stand_later := He.noat_ok (c.fact 43 (f := .noat "Stand" "later") rfl)
    na_Stand_back := He.noat_ok (c.fact 44 (f := .noat "Stand" "back") rfl)
    m_Rule := He.glo_ok X G (c.fact 45 (f := .glo "Rule") rfl)
    cl_Rule := He.cls_ok (c.fact 46 (f := .cls "Rule") rfl)
    mk_Rule := He.mkr_ok (c.fact 47 (f := .mkr "Rule") rfl)
    na_Rule_first := He.noat_ok (c.fact 48 (f := .noat "Rule" "first") rfl)
    na_Rule_times := He.noat_ok (c.fact 49 (f := .noat "Rule" "times") rfl)
    na_Rule_top := He.noat_ok (c.fact 50 (f := .noat "Rule" "top") rfl)
    na_Rule_burst := He.noat_ok (c.fact 51 (f := .noat "Rule" "burst") rfl)
    na_Rule_span := He.noat_ok (c.fact 52 (f := .noat "Rule" "span") rfl)
    m_Shelf := He.glo_ok X G (c.fact 53 (f := .glo "Shelf") rfl)
    cl_Shelf := He.cls_ok (c.fact 54 (f := .cls "Shelf") rfl)
    mk_Shelf := He.mkr_ok (c.fact 55 (f := .mkr "Shelf") rfl)
    na_Shelf_by_name := He.noat_ok (c.fact 56 (f := .noat "Shelf" "by_name") rfl)
    m_Unit := He.glo_ok X G (c.fact 57 (f := .glo "Unit") rfl)
    cl_Unit := He.cls_ok (c.fact 58 (f := .cls "Unit") rfl)
    mk_Unit := He.mkr_ok (c.fact 59 (f := .mkr "Unit") rfl)
    na_Unit_name := He.noat_ok (c.fact 60 (f := .noat "Unit" "name") rfl)
    na_Unit_kind := He.noat_ok (c.fact 61 (f := .noat "Unit" "kind") rfl)
    na_Unit_needs := He.noat_ok (c.fact 62 (f := .noat "Unit" "needs") rfl)
    na_Unit_wants := He.noat_ok (c.fact 63 (f := .noat "Unit" "wants") rfl)
    na_Unit_bars := He.noat_ok (c.fact 64 (f := .noat "Unit" "bars") rfl)
    na_Unit_after := He.noat_ok (c.fact 65 (f := .noat "Unit" "after") rfl)
    na_Unit_opens := He.noat_ok (c.fact 66 (f := .noat "Unit" "opens") rfl)
    na_Unit_rule := He.noat_ok (c.fact 67 (f := .noat "Unit" "rule") rfl)
    c_MOST := He.int_ok X G (c.fact 68 (f := .int "MOST" 16) rfl)
    n_sorted := He.free_ok X G (c.fact 69 (f := .free "sorted") rfl)
    n_all := He.free_ok X G (c.fact 70 (f := .free "all") rfl)
    n_len := He.free_ok X G (c.fact 71 (f := .free "len") rfl)
    n_any := He.free_ok X G (c.fact 72 (f := .free "any") rfl)
    n_set := He.free_ok X G (c.fact 73 (f := .free "set") rfl)
    n_isinstance := He.free_ok X G (c.fact 74 (f := .free "isinstance") rfl)
    n_str := He.free_ok X G (c.fact 75 (f := .free "str") rfl)
    n_abs := He.free_ok X G (c.fact 76 (f := .free "abs") rfl)
    n_int := He.free_ok X G (c.fact 77 (f := .free "int") rfl)
    n_range := He.free_ok X G (c.fact 78 (f := .free "range") rfl)
    n_tuple := He.free_ok X G (c.fact 79 (f := .free "tuple") rfl)
    n_list := He.free_ok X G (c.fact 80 (f := .free "list") rfl)
    n_min := He.free_ok X G (c.fact 81 (f := .free "min") rfl)
    n_bool := He.free_ok X G (c.fact 82 (f := .free "bool") rfl)
    n_max := He.free_ok X G (c.fact 83 (f := .free "max") rfl)
    ix_Unit := UO.insB_ok (He.ba (He.ba (He.ba (He.ba (He.ba (He.ba (He.ba (He.ba (He.ba (He.ba (He.ba (He.ba (He.ba (He.ba (He.ba (He.ba (He.ba cx).1).1).1).1).1).1).1).1).1).1).1).1).1).1).1).1).1
    ix_Rule := UO.insB_ok (He.ba (He.ba (He.ba (He.ba (He.ba (He.ba (He.ba (He.ba (He.ba (He.ba (He.ba (He.ba (He.ba (He.ba (He.ba (He.ba (He.ba cx).1).1).1).1).1).1).1).1).1).1).1).1).1).1).1).1).2
    ix_Stand := UO.insB_ok (He.ba (He.ba (He.ba (He.ba (He.ba (He.ba (He.ba (He.ba (He.ba (He.ba (He.ba (He.ba (He.ba (He.ba (He.ba (He.ba cx).1).1).1).1).1).1).1).1).1).1).1).1).1).1).1).2
    e0_Stand_init_wished := fun H => UO.tup0B_ok (He.ba (He.ba (He.ba (He.ba (He.ba (He.ba (He.ba (He.ba (He.ba (He.ba (He.ba (He.ba (He.ba (He.ba (He.ba cx).1).1).1).1).1).1).1).1).1).1).1).1).1).1).2 H
    e0_Stand_init_up := fun H => UO.tup0B_ok (He.ba (He.ba (He.ba (He.ba (He.ba (He.ba (He.ba (He.ba (He.ba (He.ba (He.ba (He.ba (He.ba (He.ba cx).1).1).1).1).1).1).1).1).1).1).1).1).1).2 H
    e0_Stand_init_later := fun H => UO.tup0B_ok (He.ba (He.ba (He.ba (He.ba (He.ba (He.ba (He.ba (He.ba (He.ba (He.ba (He.ba (He.ba (He.ba cx).1).1).1).1).1).1).1).1).1).1).1).1).2 H
    e0_Stand_init_back := fun H => UO.tup0B_ok (He.ba (He.ba (He.ba (He.ba (He.ba (He.ba (He.ba (He.ba (He.ba (He.ba (He.ba (He.ba cx).1).1).1).1).1).1).1).1).1).1).1).2 H
    e0_Unit_init_needs := fun H => UO.tup0B_ok (He.ba (He.ba (He.ba (He.ba (He.ba (He.ba (He.ba (He.ba (He.ba (He.ba (He.ba cx).1).1).1).1).1).1).1).1).1).1).2 H
    e0_Unit_init_wants := fun H => UO.tup0B_ok (He.ba (He.ba (He.ba (He.ba (He.ba (He.ba (He.ba (He.ba (He.ba (He.ba cx).1).1).1).1).1).1).1).1).1).2 H
    e0_Unit_init_bars := fun H => UO.tup0B_ok (He.ba (He.ba (He.ba (He.ba (He.ba (He.ba (He.ba (He.ba (He.ba cx).1).1).1).1).1).1).1).1).2 H
    e0_Unit_init_after := fun H => UO.tup0B_ok (He.ba (He.ba (He.ba (He.ba (He.ba (He.ba (He.ba (He.ba cx).1).1).1).1).1).1).1).2 H
    px_Unit_Rule := UO.pairB_ok (He.ba (He.ba (He.ba (He.ba (He.ba (He.ba (He.ba cx).1).1).1).1).1).1).2
    px_Unit_Stand := UO.pairB_ok (He.ba (He.ba (He.ba (He.ba (He.ba (He.ba cx).1).1).1).1).1).2
    px_Rule_Unit := UO.pairB_ok (He.ba (He.ba (He.ba (He.ba (He.ba cx).1).1).1).1).2
    px_Rule_Stand := UO.pairB_ok (He.ba (He.ba (He.ba (He.ba cx).1).1).1).2
    px_Stand_Unit := UO.pairB_ok (He.ba (He.ba (He.ba cx).1).1).2
    px_Stand_Rule := UO.pairB_ok (He.ba (He.ba cx).1).2
    e1_Shelf_init := fun H => UO.tup0B_ok (He.ba cx).2 H
    kb_Rule_init_1_first_times_top_burst_span := kb_Rule_init_1_first_times_top_burst_span_mk F10
    kb_Unit_init_2_kind_needs_wants_bars_after_opens_rule := kb_Unit_init_2_kind_needs_wants_bars_after_opens_rule_mk F17
    kb_Stand_init_1_wished_up_later_back := kb_Stand_init_1_wished_up_later_back_mk F4
    kb_fits_0_stand_shelf := kb_fits_0_stand_shelf_mk F9
    kb_Stand_init_1_none := kb_Stand_init_1_none_mk F4 }
  have e := hfa.symm.trans T.m_law
  cases e
  have b := FunD.bindsA (ps := ["_law_script"]) T.F_law fun _ _ _ _ _ _ us hl => match us, hl with | [_], _ => rfl
  exact ⟨T.d_law, fun s v => b s [v] rfl, fun base _ _ => ok_law T⟩
end K19
open PySem PySem.W PySem.Calls PyProof.Rows
set_option maxRecDepth 100000 in
set_option maxHeartbeats 0 in
theorem PySem.Challenge.cw_unitwants_k19_fits_holds : PySem.Challenge.rw_unitwants_k19_fits.Holds := by
  w_on; o_law
  refine HandSHeadRun.head_any (r := OpenLaw.row PySem.Challenge.rw_unitwants_k19_fits) (q := view (OpenLaw.row PySem.Challenge.rw_unitwants_k19_fits).prog [48]) (H := K19.hk) (ob := K19.ob) (M := 4000) (loose := ("_wall" :: "own_copy" :: "NoUnit" :: "NoShelf" :: "next_in" :: "free_order" :: "ring_in" :: "knot_in" :: "Stand" :: "open_in" :: "all_there" :: "needs_wished" :: "none_barred" :: "fits" :: "Rule" :: "Shelf" :: "Unit" :: "_law_bag" :: "_law_take" :: "_law_name" :: "_law_names" :: "_law_rule_parts" :: "_law_rule" :: "_law_some" :: "_law_facts" :: "_law_unit" :: "_law_units" :: "_law_needing" :: "_law_barred" :: "_law_next" :: "_law_followed" :: "_law_lacks" :: "_law_clash" :: "_law_ways" :: "_law_waited" :: "_law_knotted" :: "_law_stand_drawn" :: "_law_due" :: "_law_bent" :: "_law_right" :: "MOST" :: ([] : List PySem.Str))) (d := HandSHeadRun.topDef (OpenLaw.row PySem.Challenge.rw_unitwants_k19_fits).prog 48) (kwd := []) K19.ob_eq
    (by kernel_rfl) (fun s => by kernel_rfl) K19.run (by kernel_rfl) (by kernel_rfl) (by kernel_rfl) (by rfl) (by first | assumption | decide +kernel) (by decide +kernel) ⟨rfl, rfl, rfl, rfl, rfl, by decide +kernel⟩ ?hw ?hc
  case hw => w_witness2
  case hc =>
    refine L2.walk_ofE (l := PySem.Challenge.rw_unitwants_k19_fits) (n := 63) (k := 13) (x := "_law_script") (CX := L2.CX0) rfl (by decide) (by kernel_rfl) ⟨rfl, by decide, by decide⟩ ?F (fun _ _ _ _ z => z)
    intro w mg fa h Y G hmg0
    obtain ⟨K, KX, c, cx⟩ := Y
    have hmg : mg ("law" : PySem.Str) = some (.ref fa) := by
      have e : (HandSHeadRun.topDef (OpenLaw.row PySem.Challenge.rw_unitwants_k19_fits).prog 48).name = ("law" : PySem.Str) := by kernel_rfl
      rw [← e]
      exact hmg0
    obtain ⟨fd, hb, hF⟩ := K19.facts (P := (PySem.Challenge.rw_unitwants_k19_fits).prog) (w := w) KX G hmg c cx
    exact ⟨K, fd, K19.sp_law K, KX, hb, fun H a ns hl _ hS => ⟨a, ns, rfl, hS, hl, fun _ => rfl⟩, hF⟩
