import PyProof.Rows.All
import Wide.All
import OpenK.AllK
import Wide.FinOn
import KE.KStateDown
import HandS.ForMost
import HandS.More
import HandS.WordsExc
import HandS.Defaults
import HandS.MakeKwOnly
import HandS.IsInst
import HandS.FStr
import HandS.Walk
import HandS.TupAny
import HandS.SortKw
import HandS.OwnEq
import KE.KFmtOwn
import KE.DataMinMax
import KE.DatumOrd
import KE.SortData
import HandS.Deep
import HandS.SetKeys
import HandS.DictComp
import HandS.Conv
import HandS.Style
import HandS.Evl
import HandS.Head0
import HandS.Head1
import HandS.Head2
import HandS.HeadEnd
import HandS.HeadHook1
import HandS.HeadHook2
import PySem.Challenge.RW_unitwants_k24_shelves_never_change
import HandS.Exc
import HandS.ExcOwn
import HandS.Set
import HandS.SetTxt0
import HandS.TryOnly
import HandS.Star
import HandS.MakeKw
import HandS.Text
import HandS.ExcInit
import HandS.ExcValue
import HandS.ExcCtx
import HandS.ExcInitHot
import HandS.HotCalls
import HandS.ExcField
import HandS.ExcIs
import HandS.FStrTup
import KE.KExcInit
import KE.KExcIs
import KE.GoesMore
import KE.GoesEnum
import KE.GoesComp
import KE.KDictWalk
import KE.KDictIter
import KE.KUnpack
import KE.KUnpackStar
import PyProof.Walk
import PyProof.WalkLemmas
import PyProof.CallFns
import PyProof.Rows.FactsExc_KeyError
import PyProof.ExcBaseAll.LookupError
import HandS.Hot
import HandS.Comp
set_option Elab.async false
set_option linter.all false
set_option maxRecDepth 100000
set_option maxHeartbeats 4000000
/-! own layer: heaps, rules that lacked, the bag of draws -/
namespace UW
open PySem PySem.Spec PyProof.Rows L2

/-! ### heaps -/
theorem same_upd {H : Hp} {p : Addr} {o : HO} (h : H p = none) : Same H (upd H p o) := fun b x e => by
  rw [upd_ne (ne_of_none e h)]
  exact e
theorem new_at {H H2 : Hp} {p : Addr} {o : HO} (e : upd H p o = H2) : H2 p = some o := by
  rw [← e]
  exact upd_same
theorem new_same {H H2 : Hp} {p : Addr} {o : HO} (e : upd H p o = H2) (h : H p = none) : Same H H2 := by
  rw [← e]
  exact same_upd h
/-- all but p is as it was -/
def Kp (p : Addr) (H H' : Hp) : Prop := ∀ c o, H c = some o → c ≠ p → H' c = some o
theorem Kp.refl (p : Addr) (H : Hp) : Kp p H H := fun _ _ h _ => h
theorem Kp.trans {p : Addr} {H H1 H2 : Hp} (a : Kp p H H1) (b : Kp p H1 H2) : Kp p H H2 := fun c o h n => b c o (a c o h n) n
theorem Kp.of {p : Addr} {H H' : Hp} (s : Same H H') : Kp p H H' := fun c o h _ => s c o h
theorem Kp.same {p : Addr} {H H1 H2 : Hp} (a : Kp p H H1) (b : Same H1 H2) : Kp p H H2 := a.trans (.of b)
theorem mut_keep {H H2 : Hp} {p : Addr} {o : HO} (e : upd H p o = H2) : Kp p H H2 := fun c x h n => by
  rw [← e, upd_ne n]
  exact h
/-- an object that H did not know has changed -/
theorem Kp.own {p q : Addr} {H H1 H2 : Hp} (a : Kp p H H1) (b : Kp q H1 H2) (n : H q = none) : Kp p H H2 := fun c o h m => b c o (a c o h m) (ne_of_none h n)
theorem Same.own {q : Addr} {H H1 H2 : Hp} (a : Same H H1) (b : Kp q H1 H2) (n : H q = none) : Same H H2 := fun c o h => b c o (a c o h) (ne_of_none h n)
theorem Kp.free {p q : Addr} {H H' : Hp} (a : Kp p H H') (h : H' q = none) (n : q ≠ p) : H q = none := by
  cases e : H q with
  | none => rfl
  | some o =>
    rw [a q o e n] at h
    cases h
theorem Kp.seq {K : PySem.W.Frag} {p a : Addr} {H H' : Hp} {xs : List V} (k : Kp p H H') (n : a ≠ p) (h : SqL K H a xs) : SqL K H' a xs := by
  rcases h with (h | ⟨o, h⟩) | h
  · exact .inl (.inl (k _ _ h n))
  · exact .inl (.inr ⟨o, k _ _ h n⟩)
  · exact .inr h
theorem ne_some {H : Hp} {a b : Addr} {o : HO} (h : H a = some o) (n : H b = none) : a ≠ b := fun e => by
  rw [e, n] at h
  cases h

/-! ### rules that lacked -/
section
variable {X : Cx}
def CPowL (i j : Int) : Prop := 0 ≤ j ∧ j ≤ 100 ∧ i.natAbs < 2 ^ 1000
theorem op_powL : OpR X (binaryOp .Pow) (rI CPowL fun i j => .int (i ^ j.toNat)) := opI fun i j _ _ _ _ _ hc q => by
  obtain ⟨h1, h2, h3⟩ := hc
  have b := intBits_le h3
  refine pow_int h1 ?_ q
  have b' : (Builtin.Int.intBits i : Int) ≤ 1000 := by exact_mod_cast b
  have b0 : (0 : Int) ≤ (Builtin.Int.intBits i : Int) := Int.natCast_nonneg _
  have := Int.mul_le_mul b' h2 h1 (by decide)
  exact Int.le_trans this (by decide)
def ipC (C : Int → Int → Prop) (f : Int → Int → Int) : TIp := fun x y H Q => ∃ i j, x = .int i ∧ y = .int j ∧ C i j ∧ Q (.int (f i j)) H
theorem ip_mul : PIp X .Mult (ipC CMul fun i j => i * j) := by
  intro pins s σ H x y v u Q I r1 r2 h
  obtain ⟨i, j, e1, e2, hc, q⟩ := h
  subst e1; subst e2
  obtain ⟨t, rfl⟩ := r1
  obtain ⟨t', rfl⟩ := r2
  exact imul_int ⟨.int _, H, I.tok _, ⟨_, rfl⟩, q⟩ hc.ok
theorem vals_take {vs : List V} {us : List Value} (h : Vals vs us) : ∀ n, Vals (vs.take n) (us.take n) := by
  induction h with
  | nil => intro n; rw [List.take_nil, List.take_nil]; exact .nil
  | cons r _ ih =>
    intro n
    cases n with
    | zero => exact .nil
    | succ n => exact .cons r (ih n)
/-- f(k = v, ..) -/
theorem pe_callN0 {CX : CXT} {k : Nat} {f : Addr} {fd : FuncData} {ps ks : List Str} {sp : Sp} {E : XK} {x : Str} {p pos : Pos} {kws : List Keyword} {tk : TA} {g : List Value → List Value → List Value} {gV : List V → List V → List V}
    (F : FnOk X.prog X.w X.K X.mg X.base CX k f fd ps sp) (hr : Room k X.A) (hg : Gl X x) (hm : X.mg x = some (.ref f)) (hk : PySem.W.keepIn X.K (.ref f) = true) (hb : KBn X.K fd ps 0 ks g gV) (hx : Passes CX X E) (hkw : PK X kws tk)
    (hall : (backToKw pos (keywordEach kws X.env)).all (·.1.isSome) = true := by rfl) (hks : (backToKw pos (keywordEach kws X.env)).filterMap (·.1) = ks := by rfl) (hdb : (x == ("__debug__" : Str)) = false := by decide)
    (hpl : ((backTo pos (starEach [] X.env)).any (·.1) || (backToKw pos (keywordEach kws X.env)).any (·.1.isNone)) = false := by rfl) :
    PE X (.Call (.Name x p) [] kws pos) (tCallN 0 ks.length sp gV E tNil tk) := by
  refine ⟨fun pins s σ H Q I h => ?_⟩
  refine wpAny_Call_Name_kw (ld_glob I hg hm ?_ hdb)
  refine PySem.W.callWith_KW0 (h₀ := X.base) I.ok.mod.kin hk hall ?_ hpl
  refine thn (hkw.run pos pins s σ H _ I h) fun ws s2 ⟨zs, H2, I2, rz, l1, l2, q2⟩ => ⟨I2.kIn, ?_⟩
  rw [hks]
  exact run_fnN (us := []) (vs := []) F hr hb hx I2 .nil rz rfl l2 q2
end

/-! ### the bag of draws -/
structure Bag (n : Nat) (H : Hp) (p : Addr) : Prop where
  ex : ∃ a b c : Int, H p = some (.lst [.int a, .int b, .int c]) ∧ 0 ≤ a ∧ 0 ≤ b ∧ b < 2 ^ 64 ∧ 0 ≤ c ∧ c ≤ n
theorem Bag.le {n m : Nat} {H : Hp} {p : Addr} (b : Bag n H p) (h : n ≤ m) : Bag m H p := by
  obtain ⟨a, x, c, h1, h2, h3, h4, h5, h6⟩ := b.ex
  exact ⟨a, x, c, h1, h2, h3, h4, h5, by omega⟩
theorem Bag.same {n : Nat} {H H' : Hp} {p : Addr} (b : Bag n H p) (s : Same H H') : Bag n H' p := by
  obtain ⟨a, x, c, h1, h⟩ := b.ex
  exact ⟨a, x, c, s _ _ h1, h⟩
theorem Bag.keep {n : Nat} {H H' : Hp} {p q : Addr} (b : Bag n H p) (s : Kp q H H') (ne : p ≠ q) : Bag n H' p := by
  obtain ⟨a, x, c, h1, h⟩ := b.ex
  exact ⟨a, x, c, s _ _ h1 ne, h⟩
theorem Bag.ne {n : Nat} {H : Hp} {p q : Addr} (b : Bag n H p) (h : H q = none) : p ≠ q := by
  obtain ⟨a, x, c, h1, _⟩ := b.ex
  exact ne_some h1 h
theorem Bag.some {n : Nat} {H : Hp} {p : Addr} (b : Bag n H p) : ∃ o, H p = some o := by
  obtain ⟨a, x, c, h1, _⟩ := b.ex
  exact ⟨_, h1⟩
/-- the five numbers of a rule within their bounds -/
structure Five (f m t b s : Int) : Prop where
  f1 : 1 ≤ f
  f2 : f ≤ 1000
  m1 : 1 ≤ m
  m2 : m ≤ 10
  t1 : 1 ≤ t
  t2 : t ≤ 1000000
  b1 : 0 ≤ b
  b2 : b ≤ 20
  s1 : 0 ≤ s
  s2 : s ≤ 1000000
end UW
namespace UW
open PySem L2
/-- for i, x in enumerate(xs), both names plain -/
theorem for_enum2 {K : PySem.W.Frag} {a : Addr} {xs : List V} {i j : Nat} {tb : TS} {D : Ends} {σ : St} {H : Hp} (Pv : Nat → St → Hp → Prop) (h0 : Pv 0 σ H) (hl : ∀ k σ H, k ≤ xs.length → Pv k σ H → SqL K H a xs)
    (hs : ∀ k x σ H H2, xs[k]? = some x → Pv k σ H → Same H H2 → tb { D with nx := Pv (k + 1), ct := Pv (k + 1), bk := D.nx } ((σ.set i (some (.int (k : Nat)))).set j (some x)) H2) (hd : ∀ σ H, Pv xs.length σ H → D.nx σ H) :
    ∃ W : Nat → Nat → St → Hp → Prop, (∃ m, W 0 m σ H) ∧ ∀ k m σ H, W k m σ H →
      ((Ite K a).stop k H ∧ D.nx σ H) ∨ ((Ite K a).go k H ∧ ∃ N : St → Hp → Prop, (∀ σ' H', N σ' H' → ∃ m', m' < m ∧ W (k + 1) m' σ' H') ∧ ∀ x H', (Ite K a).yld k H x H' → gTup K 2 (gCons (gName i) (gCons (gName j) gNil)) x σ H' fun σ2 H2 => tb { D with nx := N, ct := N, bk := D.nx } σ2 H2) := by
  refine for_it walk_enum Pv h0 hl (fun k v σ H H' hk p y => ?_) hd
  obtain ⟨T, x, y, rfl, nT, rfl, e1, e2⟩ := y
  cases e1
  exact ⟨T, _, rfl, .inl (.inl upd_same), rfl, _, _, rfl, _, _, rfl, rfl, hs k y σ H _ e2 p (same_upd nT)⟩
/-- one item of a short list by its place -/
theorem at0 {α : Type} {a : α} {r : List α} : atI (a :: r) 0 = some a := atI_nat (j := 0) rfl
theorem at1 {α : Type} {a b : α} {r : List α} : atI (a :: b :: r) 1 = some b := atI_nat (j := 1) rfl
theorem at2 {α : Type} {a b c : α} {r : List α} : atI (a :: b :: c :: r) 2 = some c := atI_nat (j := 2) rfl
theorem at3 {α : Type} {a b c d : α} {r : List α} : atI (a :: b :: c :: d :: r) 3 = some d := atI_nat (j := 3) rfl
theorem at4 {α : Type} {a b c d e : α} {r : List α} : atI (a :: b :: c :: d :: e :: r) 4 = some e := atI_nat (j := 4) rfl
end UW
namespace UW
open PySem L2
theorem bag_made {H : Hp} {p : Addr} {c k : Int} {b : Bool} (h0 : 0 ≤ k) (h1 : k ≤ 1000) : Bag 0 (upd H p (.lst [.int ((if c < 0 then -c else c) * (if b = true then 1 else 0)), .int (c % (10 ^ (18 : Int).toNat + 9) + 1299709 * k), .int 0])) p := by
  refine ⟨_, _, _, upd_same, ?_, ?_, ?_, Int.le_refl _, Int.le_refl _⟩
  · have : (0 : Int) ≤ if c < 0 then -c else c := by split <;> omega
    cases b
    · simp
    · simpa using this
  · have e : (10 ^ (18 : Int).toNat + 9 : Int) = 1000000000000000009 := by decide
    rw [e]
    omega
  · have e : (10 ^ (18 : Int).toNat + 9 : Int) = 1000000000000000009 := by decide
    rw [e]
    omega
end UW
namespace UW
open PySem L2
theorem cmul_b {i : Int} {b : Bool} : CMul i (if b = true then 1 else 0) := by
  cases b
  · exact .inr ⟨by decide, by decide⟩
  · exact .inr ⟨by decide, by decide⟩
theorem pow10 {j : Int} (h0 : 0 ≤ j := by decide) (h1 : j ≤ 100 := by decide) : CPowL 10 j :=
  ⟨h0, h1, Nat.lt_of_lt_of_le (show (10 : Int).natAbs < 2 ^ 4 by decide) (Nat.pow_le_pow_right (by decide) (by decide))⟩
/-- the primes of a draw -/
abbrev primes : List V := [.int 2147483647, .int 2147483629, .int 2147483587, .int 2147483579, .int 2147483563, .int 2147483549, .int 2147483543, .int 2147483497]
theorem prime_at (c : Int) : ∃ p : Int, atI primes (c % 8) = some (.int p) ∧ 0 < p ∧ p < 2147483648 := by
  have h0 : 0 ≤ c % 8 := Int.emod_nonneg _ (by decide)
  have h1 : c % 8 < 8 := Int.emod_lt_of_pos _ (by decide)
  generalize c % 8 = d at h0 h1
  obtain ⟨k, rfl⟩ := Int.eq_ofNat_of_zero_le h0
  have hk : k < 8 := by omega
  match k, hk with
  | 0, _ => exact ⟨_, atI_nat (j := 0) rfl, by decide, by decide⟩
  | 1, _ => exact ⟨_, atI_nat (j := 1) rfl, by decide, by decide⟩
  | 2, _ => exact ⟨_, atI_nat (j := 2) rfl, by decide, by decide⟩
  | 3, _ => exact ⟨_, atI_nat (j := 3) rfl, by decide, by decide⟩
  | 4, _ => exact ⟨_, atI_nat (j := 4) rfl, by decide, by decide⟩
  | 5, _ => exact ⟨_, atI_nat (j := 5) rfl, by decide, by decide⟩
  | 6, _ => exact ⟨_, atI_nat (j := 6) rfl, by decide, by decide⟩
  | 7, _ => exact ⟨_, atI_nat (j := 7) rfl, by decide, by decide⟩
theorem basis_small {b c : Int} (h0 : 0 ≤ b) (h1 : b < 2 ^ 64) (h2 : 0 ≤ c) (h3 : c < 2000000000) : (b * (2 * c + 1) + 7919 * c * c + 29).natAbs < 2 ^ 1000 := by
  have e1 : b * (2 * c + 1) ≤ 2 ^ 64 * (2 * 2000000000 + 1) := Int.mul_le_mul (by omega) (by omega) (by omega) (by decide)
  have e2 : 7919 * c * c ≤ 7919 * 2000000000 * 2000000000 := Int.mul_le_mul (by omega) (by omega) h2 (by decide)
  have e3 : 0 ≤ b * (2 * c + 1) := Int.mul_nonneg h0 (by omega)
  have e4 : 0 ≤ 7919 * c * c := Int.mul_nonneg (by omega) h2
  refine Nat.lt_of_lt_of_le (m := 2 ^ 200) ?_ (Nat.pow_le_pow_right (by decide) (by decide))
  have e5 : b * (2 * c + 1) + 7919 * c * c + 29 < 2 ^ 200 := by
    have : (2 ^ 64 * (2 * 2000000000 + 1) + 7919 * 2000000000 * 2000000000 + 29 : Int) < 2 ^ 200 := by decide
    omega
  omega
end UW
namespace UW
open PySem L2
/-- a draw: a number from 0 to below a size; the bag alone has changed -/
@[irreducible] def spTake : Sp := fun vs H Q _ => ∃ (p : Addr) (z : Int) (n : Nat), vs = [.ref p, .int z] ∧ Bag n H p ∧ 0 < z ∧ z < 1073741824 ∧ n < 1000000000 ∧
  ∀ (r : Int) H', 0 ≤ r → r < z → Bag (n + 1) H' p → Kp p H H' → Q (.int r) H'
theorem take_of {H : Hp} {p : Addr} {n : Nat} {z : Int} {Q : VK} {E : XK} (B : Bag n H p) (h0 : 0 < z) (h1 : z < 1073741824) (hn : n < 1000000000)
    (q : ∀ (r : Int) H', 0 ≤ r → r < z → Bag (n + 1) H' p → Kp p H H' → Q (.int r) H') : spTake [.ref p, .int z] H Q E := by
  unfold spTake
  exact ⟨p, z, n, rfl, B, h0, h1, hn, q⟩
theorem take_un {vs : List V} {H : Hp} {Q : VK} {E : XK} (h : spTake vs H Q E) : ∃ (p : Addr) (z : Int) (n : Nat), vs = [.ref p, .int z] ∧ Bag n H p ∧ 0 < z ∧ z < 1073741824 ∧ n < 1000000000 ∧
    ∀ (r : Int) H', 0 ≤ r → r < z → Bag (n + 1) H' p → Kp p H H' → Q (.int r) H' := by
  unfold spTake at h
  exact h
/-- take(bag, [z1, ..][take(bag, k)]), the menu just laid at l -/
theorem take_menu {K : PySem.W.Frag} {H : Hp} {p l : Addr} {n : Nat} {zs : List Int} {k : Int} {Q : VK} {E E' : XK} (B : Bag n H p) (hn : n < 900000000) (hl : H l = none) (hk : k = (zs.length : Int)) (hz0 : 0 < zs.length) (hz1 : zs.length < 1000) (hz : ∀ z ∈ zs, 0 < z ∧ z < 1073741824)
    (q : ∀ (z r : Int) H', z ∈ zs → 0 ≤ r → r < z → Bag (n + 2) H' p → Kp p H H' → Q (.int r) H') :
    spTake [.ref p, .int k] (upd H l (.lst (zs.map V.int))) (fun v H2 => rIxL K (.ref l) v H2 fun w H3 => spTake [.ref p, w] H3 Q E) E' := by
  subst hk
  generalize hE : upd H l _ = H1
  have k1 := new_at hE
  have s1 := new_same hE hl
  have npl := B.ne hl
  refine take_of (B.same s1) (by omega) (by omega) (by omega) fun r H2 r0 r1 B2 kp2 => ?_
  obtain ⟨j, rfl⟩ := Int.eq_ofNat_of_zero_le r0
  have hj : j < zs.length := by omega
  have hm : zs[j] ∈ zs := List.getElem_mem hj
  refine ⟨l, _, _, .int zs[j], rfl, rfl, SqL.of (kp2 _ _ k1 npl.symm), atI_nat (by rw [List.getElem?_map, List.getElem?_eq_getElem hj]; rfl), ?_⟩
  refine take_of B2 (hz _ hm).1 (hz _ hm).2 (by omega) fun r2 H3 q0 q1 B3 kp3 => ?_
  exact q _ r2 H3 hm q0 q1 B3 ((Kp.of s1).trans (kp2.trans kp3))
end UW
namespace UW
open PySem L2
section
variable {X : Cx}
/-- a statement, then the rest, with a word between -/
def tMid (t u : TS) : TS := fun D σ H => ∃ M : L2.St → Hp → Prop, t { D with nx := M } σ H ∧ ∀ σ' H', M σ' H' → u D σ' H'
theorem pss_mid {st : Stmt} {rest : List Stmt} {t u : TS} (h1 : PS X st t) (h2 : PSs X rest u) : PSs X (st :: rest) (tMid t u) := by
  refine ⟨fun pins s σ H D I h => ?_⟩
  obtain ⟨M, hm, hu⟩ := h
  refine wpAny_execs_cons (thn (h1.run pins s σ H { D with nx := M } I hm) fun f s1 q => ?_)
  cases f with
  | next =>
    obtain ⟨σ', H', I', q⟩ := q
    exact h2.run pins s1 σ' H' D I' (hu σ' H' q)
  | ret v => exact q
  | brk => exact q
  | cont => exact q
/-- an expression with a word behind it -/
def tMidE (t : TE) : TE := fun σ H Q => ∃ M : VK, t σ H M ∧ ∀ v H', M v H' → Q v H'
theorem pe_mid {e : Expr} {t : TE} (h : PE X e t) : PE X e (tMidE t) := by
  refine ⟨fun pins s σ H Q I ⟨M, hm, hq⟩ => ?_⟩
  exact thn (h.run pins s σ H M I hm) fun u s1 ⟨v, H', I', r, q⟩ => ⟨v, H', I', r, hq v H' q⟩
def tMidT (t : TT) : TT := fun σ H Q => ∃ M : Bool → Hp → Prop, t σ H M ∧ ∀ b H', M b H' → Q b H'
theorem pt_mid {e : Expr} {t : TT} (h : PT X e t) : PT X e (tMidT t) := by
  refine ⟨fun pins s σ H Q I ⟨M, hm, hq⟩ => ?_⟩
  exact thn (h.run pins s σ H M I hm) fun b s1 ⟨H', I', q⟩ => ⟨H', I', hq b H' q⟩
end
end UW
namespace UW
theorem iteY {c A B : Prop} [Decidable c] (hc : c) (h : A) : if c then A else B := by
  rw [if_pos hc]
  exact h
theorem iteN {c A B : Prop} [Decidable c] (hc : ¬ c) (h : B) : if c then A else B := by
  rw [if_neg hc]
  exact h
theorem iteYd {c A B : Prop} [Decidable c] (hc : c) (h : A) : if decide c = true then A else B := iteY (decide_eq_true hc) h
theorem iteNd {c A B : Prop} [Decidable c] (hc : ¬ c) (h : B) : if decide c = true then A else B := iteN (fun z => hc (of_decide_eq_true z)) h
end UW
namespace UW
open PySem L2
/-- None, truths, ints -/
def flatN : V → Bool
  | .non => true
  | .bl _ => true
  | .int _ => true
  | _ => false
def flatD : V → PyData
  | .non => .none
  | .bl b => .bool b
  | .int i => .int i
  | _ => .none
theorem dp_flat {K : PySem.W.Frag} {H : Hp} {v : V} (h : flatN v = true) : Dp K H v (flatD v) := by
  cases v with
  | non => exact .non
  | bl b => exact .bl b
  | int i => exact .int i
  | _ => cases h
theorem dpAll_flat {K : PySem.W.Frag} {H : Hp} : ∀ {xs : List V}, (∀ v ∈ xs, flatN v = true) → DpAll K H xs (xs.map flatD)
  | [], _ => .nil
  | v :: vs, h => .cons (dp_flat (h v (List.mem_cons_self ..))) (dpAll_flat fun x hx => h x (List.mem_cons_of_mem _ hx))
theorem lay_flat (v : V) : PyData.canLay0 (flatD v) = true ∧ PyData.depth (flatD v) = 0 := by
  cases v <;> exact ⟨by simp only [flatD, PyData.canLay0], by simp only [flatD, PyData.depth]⟩
theorem layAll_flat : ∀ xs : List V, PyData.canLayAll0 (xs.map flatD) = true ∧ PyData.depthAll (xs.map flatD) = 0
  | [] => ⟨by simp only [List.map_nil, PyData.canLayAll0], by simp only [List.map_nil, PyData.depthAll]⟩
  | v :: vs => by
    obtain ⟨a, b⟩ := lay_flat v
    obtain ⟨c, d⟩ := layAll_flat vs
    rw [List.map_cons]
    exact ⟨by simp only [PyData.canLayAll0, a, c, Bool.and_self], by simp only [PyData.depthAll, b, d, Nat.max_self]⟩
theorem shaped_flat (xs : List V) : SeqAt.shaped (.list (xs.map flatD)) = true := by
  obtain ⟨c, d⟩ := layAll_flat xs
  unfold SeqAt.shaped
  simp only [PyData.canLay0, PyData.depth, c, d]
  decide
theorem neD_same {K : PySem.W.Frag} {H : Hp} {a b : Addr} {xs : List V} {Q : VK} (h1 : SqL K H a xs) (h2 : SqL K H b xs) (hf : ∀ v ∈ xs, flatN v = true) (q : Q (.bl false) H) : rNeD K (.ref a) (.ref b) H Q := by
  refine ⟨_, _, .lst h1 (dpAll_flat hf), .lst h2 (dpAll_flat hf), shaped_flat xs, shaped_flat xs, ?_⟩
  have e : PyData.eqv (.list (xs.map flatD)) (.list (xs.map flatD)) = true := SeqAt.eqv_refl _ (by simp only [PyData.canLay0]; exact (layAll_flat xs).1)
  rw [e]
  exact q
end UW
namespace UW
open PySem L2
theorem yes_of {σ : L2.St} {H : Hp} {Q : Bool → Hp → Prop} (h : Q true H) : tYes σ H Q := h
end UW
namespace UW
open PySem L2
/-- max(xs, default=d) of ints: some int -/
def rMaxD (K : PySem.W.Frag) : List V → List V → Hp → VK → Prop := fun vs zs H Q => ∃ (a : Addr) (ns : List Int) (d : Int), vs = [.ref a] ∧ zs = [.int d] ∧ SqL K H a (ns.map V.int) ∧ ∀ m : Int, Q (.int m) H
theorem ints_flatD (ns : List Int) : (ns.map V.int).map flatD = ns.map PyData.int := by
  rw [List.map_map]
  rfl
theorem cr_maxD {X : Cx} (hc : X.calm = true) (hu : X.A.units + 64 < cLine) : CallRK X (.builtin "max") [Str.ofString "default"] (rMaxD X.K) := by
  intro pins s σ H vs zs us ws Q I r rz h
  obtain ⟨a, ns, d, rfl, rfl, hs, q⟩ := h
  obtain ⟨its, rv, hl, _⟩ := I.list hs
  rw [Vals.ref1 r]
  obtain ⟨w1, rfl, t1, rfl⟩ := vals1 rz
  obtain ⟨as, hr⟩ := Dp.readsAll I ((ns.map V.int).map flatD) _ _ (dpAll_flat (K := X.K) (H := H) (xs := ns.map V.int) fun v hv => by
    obtain ⟨i, _, rfl⟩ := List.mem_map.mp hv
    rfl) rv
  have hd := (layAll_flat (ns.map V.int)).2
  refine PySem.W.max_list_default (I.ok.hd hc) hl.isList (vs := its.toArray) hr ⟨?_, ?_⟩ (by rw [hd]; omega) (fun _ h' tk hk => ⟨.int d, H, I.kept hk, ⟨_, rfl⟩, q d⟩) fun y ys i v h' tk bs _ hi _ hk => ?_
  · rw [ints_flatD]
    intro x hx y hy
    obtain ⟨i, _, rfl⟩ := List.mem_map.mp hx
    obtain ⟨j, _, rfl⟩ := List.mem_map.mp hy
    simp only [PySem.W.alike]
  · rw [ints_flatD]
    intro x hx
    obtain ⟨i, _, rfl⟩ := List.mem_map.mp hx
    intro z
    cases z
  · have hv : ∃ n t, v = .int n t := by
      have hi' : its[i]? = some v := by rw [← List.getElem?_toArray]; exact hi
      have : ∀ (vs : List V) (us : List Value) (i : Nat) (v : Value), Vals vs us → us[i]? = some v → ∃ x, vs[i]? = some x ∧ RelV x v := by
        intro vs us i v r
        induction r generalizing i with
        | nil => intro h; simp at h
        | cons r1 _ ih =>
          intro h
          cases i with
          | zero => cases h; exact ⟨_, rfl, r1⟩
          | succ i => exact ih i h
      obtain ⟨x, hx, rx⟩ := this _ _ _ _ rv hi'
      rw [List.getElem?_map] at hx
      cases e : ns[i]? with
      | none => rw [e] at hx; cases hx
      | some n =>
        rw [e] at hx
        cases hx
        obtain ⟨t, rfl⟩ := rx
        exact ⟨n, t, rfl⟩
    obtain ⟨n, t, rfl⟩ := hv
    exact ⟨.int n, H, I.kept hk, ⟨_, rfl⟩, q n⟩
end UW
namespace UW
open PySem L2
theorem ints_flat' (ts : List Int) : ∀ v ∈ ts.map V.int, flatN v = true := fun v hv => by
  obtain ⟨i, _, rfl⟩ := List.mem_map.mp hv
  rfl
theorem eqvAll_len : ∀ xs ys : List PyData, xs.length ≠ ys.length → PyData.eqvAll xs ys = false
  | [], [], h => absurd rfl h
  | [], _ :: _, _ => by simp only [PyData.eqvAll]
  | _ :: _, [], _ => by simp only [PyData.eqvAll]
  | x :: xs, y :: ys, h => by
    simp only [PyData.eqvAll]
    rw [eqvAll_len xs ys (fun e => h (by rw [List.length_cons, List.length_cons, e])), Bool.and_false]
theorem neD_diff {K : PySem.W.Frag} {H : Hp} {a b : Addr} {xs ys : List V} {Q : VK} (h1 : SqL K H a xs) (h2 : SqL K H b ys) (hf : ∀ v ∈ xs, flatN v = true) (hg : ∀ v ∈ ys, flatN v = true) (hl : xs.length ≠ ys.length) (q : Q (.bl true) H) : rNeD K (.ref a) (.ref b) H Q := by
  refine ⟨_, _, .lst h1 (dpAll_flat hf), .lst h2 (dpAll_flat hg), shaped_flat xs, shaped_flat ys, ?_⟩
  have e : PyData.eqv (.list (xs.map flatD)) (.list (ys.map flatD)) = false := by
    simp only [PyData.eqv]
    exact eqvAll_len _ _ (by rw [List.length_map, List.length_map]; exact hl)
  rw [e]
  exact q
theorem eqD_same {K : PySem.W.Frag} {H : Hp} {a b : Addr} {xs : List V} {Q : VK} (h1 : SqL K H a xs) (h2 : SqL K H b xs) (hf : ∀ v ∈ xs, flatN v = true) (q : Q (.bl true) H) : rEqD K (.ref a) (.ref b) H Q := by
  refine ⟨_, _, .lst h1 (dpAll_flat hf), .lst h2 (dpAll_flat hf), shaped_flat xs, shaped_flat xs, ?_⟩
  have e : PyData.eqv (.list (xs.map flatD)) (.list (xs.map flatD)) = true := SeqAt.eqv_refl _ (by simp only [PyData.canLay0]; exact (layAll_flat xs).1)
  rw [e]
  exact q
end UW
namespace UW
open PySem L2
theorem slA {K : PySem.W.Frag} {H : Hp} {a : Addr} {xs : List V} {lo hi : Option Int} {Q : VK} (h : SqT K H a xs) (q : ∀ p H', Same H H' → SqT K H' p (cutV xs lo hi) → Q (.ref p) H') : rSlA K (.ref a) lo hi H Q := by
  refine ⟨a, xs, rfl, h, fun e => ?_, fun _ p np => ?_⟩
  · refine q a H (Same.refl H) ?_
    have : cutV xs lo hi = xs := by
      unfold cutV
      rw [e.1, e.2, List.drop_zero, Nat.sub_zero, List.take_length]
    rw [this]
    exact h
  · exact q p _ (same_upd np) (SqT.of upd_same)
theorem catA {K : PySem.W.Frag} {H : Hp} {a b : Addr} {xs ys : List V} {Q : VK} (h : SqT K H a xs) (h2 : SqT K H b ys) (hl : xs.length + ys.length ≤ 1000) (q : ∀ p H', Same H H' → SqT K H' p (xs ++ ys) → Q (.ref p) H') : rCatA K (.ref a) (.ref b) H Q := by
  refine ⟨a, b, xs, ys, rfl, rfl, h, h2, Nat.le_trans hl (by decide), fun e => ?_, fun _ e => ?_, fun _ _ p np => ?_⟩
  · exact q b H (Same.refl H) (by rw [e]; exact h2)
  · exact q a H (Same.refl H) (by rw [e, List.append_nil]; exact h)
  · exact q p _ (same_upd np) (SqT.of upd_same)
end UW
namespace UW
open PySem L2
/-! ### names -/
/-- one to eight letters -/
def Nm (x : Str) : Prop := (∀ c ∈ x.cps.toList, 97 ≤ c ∧ c ≤ 122) ∧ 0 < x.length ∧ x.length ≤ 8
abbrev lettersS : Str := Str.ofString "abcdefghijklmnopqrstuvwxyz"
abbrev srettelS : Str := Str.ofString "zyxwvutsrqponmlkjihgfedcba"
theorem letters_tl : lettersS.cps.toList = (List.range 26).map (97 + ·) := by decide +kernel
theorem srettel_tl : srettelS.cps.toList = (List.range 26).map (122 - ·) := by decide +kernel
theorem letters_size : lettersS.cps.size = 26 := by decide +kernel
theorem srettel_size : srettelS.cps.size = 26 := by decide +kernel
theorem len_tl' (x : Str) : x.length = x.cps.toList.length := TL.len_tl x
theorem tl_app (x y : Str) : (x ++ y).cps.toList = x.cps.toList ++ y.cps.toList := TL.tl_append x y
theorem str_ext {x y : Str} (h : x.cps.toList = y.cps.toList) : x = y := TL.ext_tl h
theorem letter_at {r : Int} (h0 : 0 ≤ r) (h1 : r < 26) : ∃ c, atI lettersS.cps.toList r = some c ∧ 97 ≤ c ∧ c ≤ 122 := by
  obtain ⟨j, rfl⟩ := Int.eq_ofNat_of_zero_le h0
  have hj : j < 26 := by omega
  refine ⟨97 + j, atI_nat ?_, by omega, by omega⟩
  rw [letters_tl, List.getElem?_map, List.getElem?_range hj]
  rfl
theorem letters_get {i c : Nat} (h : lettersS.cps[i]? = some c) : i < 26 ∧ c = 97 + i := by
  rw [← Array.getElem?_toList, letters_tl, List.getElem?_map] at h
  by_cases hi : i < 26
  · rw [List.getElem?_range hi] at h
    exact ⟨hi, (Option.some.inj h).symm⟩
  · rw [List.getElem?_eq_none (by rw [List.length_range]; omega)] at h
    cases h
theorem srettel_get {i c : Nat} (h : srettelS.cps[i]? = some c) : i < 26 ∧ c = 122 - i := by
  rw [← Array.getElem?_toList, srettel_tl, List.getElem?_map] at h
  by_cases hi : i < 26
  · rw [List.getElem?_range hi] at h
    exact ⟨hi, (Option.some.inj h).symm⟩
  · rw [List.getElem?_eq_none (by rw [List.length_range]; omega)] at h
    cases h
theorem inV_str (w : Str) : ∀ xs : List Str, inV (.str w) (xs.map V.str) = decide (w ∈ xs)
  | [] => rfl
  | x :: xs => by
    have ih := inV_str w xs
    unfold inV at ih ⊢
    rw [List.map_cons, List.any_cons, ih]
    show (x == w || decide (w ∈ xs)) = decide (w ∈ x :: xs)
    by_cases h : x = w
    · subst h
      rw [beq_self_eq_true, Bool.true_or, decide_eq_true (List.mem_cons_self ..)]
    · rw [show (x == w) = false from beq_eq_false_iff_ne.mpr h, Bool.false_or]
      exact decide_eq_decide.mpr ⟨fun z => List.mem_cons_of_mem _ z, fun z => by
        rcases List.mem_cons.mp z with z | z
        · exact absurd z.symm h
        · exact z⟩
theorem strs_flat (xs : List Str) : (xs.map V.str).all flatV = true := by
  rw [List.all_eq_true]
  intro v hv
  obtain ⟨x, _, rfl⟩ := List.mem_map.mp hv
  rfl
theorem nodup_le {α : Type} [DecidableEq α] : ∀ (cs ds : List α), cs.Nodup → (∀ c ∈ cs, c ∈ ds) → cs.length ≤ ds.length
  | [], _, _, _ => Nat.zero_le _
  | c :: cs, ds, hn, h => by
    obtain ⟨h1, h2⟩ := List.nodup_cons.mp hn
    have hm := h c (List.mem_cons_self ..)
    have ih := nodup_le cs (ds.erase c) h2 fun x hx => by
      have hne : x ≠ c := fun e => h1 (e ▸ hx)
      exact (List.mem_erase_of_ne hne).mpr (h x (List.mem_cons_of_mem _ hx))
    rw [List.length_erase_of_mem hm] at ih
    have := List.length_pos_of_mem hm
    rw [List.length_cons]
    omega
theorem free_in {α : Type} [DecidableEq α] {cs ds : List α} (hn : cs.Nodup) (h : ds.length < cs.length) : ∃ c ∈ cs, c ∉ ds := by
  by_cases q : ∃ c ∈ cs, c ∉ ds
  · exact q
  · have := nodup_le cs ds hn fun c hc => by
      by_cases hd : c ∈ ds
      · exact hd
      · exact absurd ⟨c, hc, hd⟩ q
    omega
/-- the text without its first sign -/
abbrev tailS (w : Str) : Str := cutS w (some 1) none
theorem tailS_tl (w : Str) : (tailS w).cps.toList = w.cps.toList.drop 1 := by
  show (List.take _ _ : List Nat) = _
  rw [show HT.sIx w.length 0 (some 1) = min 1 w.length from HT.sIx_nat w.length 0 1, HT.sIx_none]
  have hl := len_tl' w
  rw [hl]
  by_cases h : 1 ≤ w.cps.toList.length
  · rw [Nat.min_eq_left h, List.take_of_length_le (by rw [List.length_drop]; exact Nat.le_refl _)]
  · rw [Nat.min_eq_right (by omega), Nat.sub_self, List.take_zero, List.drop_of_length_le (by omega)]
theorem sign_app_tl (c : Nat) (x : Str) : ((⟨#[c]⟩ : Str) ++ x).cps.toList = c :: x.cps.toList := by
  rw [tl_app]
  rfl
/-- the 26 texts with another first letter -/
def cands (x : Str) : List Str := (List.range 26).map fun i => (⟨#[97 + i]⟩ : Str) ++ x
theorem cands_nodup (x : Str) : (cands x).Nodup := by
  unfold cands
  rw [List.nodup_iff_pairwise_ne, List.pairwise_map]
  refine List.Pairwise.imp ?_ List.nodup_range
  intro i j hij e
  have := congrArg (fun z : Str => z.cps.toList) e
  rw [show ((⟨#[97 + i]⟩ : Str) ++ x).cps.toList = (97 + i) :: x.cps.toList from sign_app_tl _ _, show ((⟨#[97 + j]⟩ : Str) ++ x).cps.toList = (97 + j) :: x.cps.toList from sign_app_tl _ _] at this
  injection this with h1 _
  omega
theorem cand_nm {w : Str} (h : Nm w) {i : Nat} (hi : i < 26) : Nm ((⟨#[97 + i]⟩ : Str) ++ tailS w) := by
  obtain ⟨h1, h2, h3⟩ := h
  have e := sign_app_tl (97 + i) (tailS w)
  have hl : ((⟨#[97 + i]⟩ : Str) ++ tailS w).length = w.length := by
    rw [len_tl', e, tailS_tl, List.length_cons, List.length_drop, ← len_tl']
    omega
  refine ⟨fun c hc => ?_, by omega, by omega⟩
  rw [e, tailS_tl] at hc
  rcases List.mem_cons.mp hc with rfl | hc
  · omega
  · exact h1 c (List.mem_of_mem_drop hc)
theorem join_one {ys : List Str} (h : ∀ y ∈ ys, ∃ c, y = ⟨#[c]⟩ ∧ 97 ≤ c ∧ c ≤ 122) (h0 : 0 < ys.length) (h8 : ys.length ≤ 8) : Nm (Txt.join (Str.ofString "") ys) := by
  have key : ∀ ys : List Str, (∀ y ∈ ys, ∃ c, y = ⟨#[c]⟩ ∧ 97 ≤ c ∧ c ≤ 122) → (Str.join (Str.ofString "") ys).cps.toList.length = ys.length ∧ ∀ c ∈ (Str.join (Str.ofString "") ys).cps.toList, 97 ≤ c ∧ c ≤ 122 := by
    intro ys
    induction ys with
    | nil => exact fun _ => ⟨rfl, fun c hc => by cases hc⟩
    | cons y ys ih =>
      intro h
      obtain ⟨c, rfl, h1, h2⟩ := h y (List.mem_cons_self ..)
      cases ys with
      | nil =>
        refine ⟨rfl, fun d hd => ?_⟩
        have hd' : d ∈ [c] := hd
        rw [List.mem_singleton.mp hd']
        exact ⟨h1, h2⟩
      | cons z zs =>
        obtain ⟨i1, i2⟩ := ih fun y hy => h y (List.mem_cons_of_mem _ hy)
        have e : (Str.join (Str.ofString "") (⟨#[c]⟩ :: z :: zs)).cps.toList = c :: (Str.join (Str.ofString "") (z :: zs)).cps.toList := by
          show ((⟨#[c]⟩ : Str) ++ Str.ofString "" ++ Str.join (Str.ofString "") (z :: zs)).cps.toList = _
          rw [tl_app, tl_app]
          rfl
        rw [e]
        refine ⟨by rw [List.length_cons, i1]; rfl, fun d hd => ?_⟩
        rcases List.mem_cons.mp hd with rfl | hd
        · exact ⟨h1, h2⟩
        · exact i2 d hd
  obtain ⟨k1, k2⟩ := key ys h
  rw [TL.join_eq]
  exact ⟨k2, by rw [len_tl', k1]; exact h0, by rw [len_tl', k1]; exact h8⟩
end UW
namespace UW
theorem range_map_succ' {α : Type} (g : Nat → α) (n : Nat) : (List.range (n + 1)).map g = (List.range n).map g ++ [g n] := by
  rw [List.range_succ, List.map_append]
  rfl
end UW
namespace UW
open PySem L2
/-! ### lists and tuples of texts compared -/
theorem Nm.ok {x : Str} (h : Nm x) : PyData.strOk x = true := by
  unfold PyData.strOk
  rw [Array.all_eq_true']
  intro c hc
  have := (h.1 c (Array.mem_toList_iff.mpr hc)).2
  exact decide_eq_true (by omega)
theorem dpAll_strs {K : PySem.W.Frag} {H : Hp} : ∀ xs : List Str, DpAll K H (xs.map V.str) (xs.map PyData.str)
  | [] => .nil
  | x :: xs => .cons (.str x) (dpAll_strs xs)
theorem layAll_strs : ∀ {xs : List Str}, (∀ x ∈ xs, PyData.strOk x = true) → PyData.canLayAll0 (xs.map PyData.str) = true ∧ PyData.depthAll (xs.map PyData.str) = 0
  | [], _ => ⟨by simp only [List.map_nil, PyData.canLayAll0], by simp only [List.map_nil, PyData.depthAll]⟩
  | x :: xs, h => by
    obtain ⟨c, d⟩ := layAll_strs fun y hy => h y (List.mem_cons_of_mem _ hy)
    rw [List.map_cons]
    exact ⟨by simp only [PyData.canLayAll0, PyData.canLay0, h x (List.mem_cons_self ..), c, Bool.and_self], by simp only [PyData.depthAll, PyData.depth, d, Nat.max_self]⟩
theorem shaped_strs {xs : List Str} (h : ∀ x ∈ xs, PyData.strOk x = true) : SeqAt.shaped (.list (xs.map PyData.str)) = true := by
  obtain ⟨c, d⟩ := layAll_strs h
  unfold SeqAt.shaped
  simp only [PyData.canLay0, PyData.depth, c, d]
  decide
theorem eqvAll_strs : ∀ xs ys : List Str, PyData.eqvAll (xs.map PyData.str) (ys.map PyData.str) = decide (xs = ys)
  | [], [] => by simp only [List.map_nil, PyData.eqvAll]; rfl
  | [], y :: ys => by simp only [List.map_nil, List.map_cons, PyData.eqvAll]; rfl
  | x :: xs, [] => by simp only [List.map_nil, List.map_cons, PyData.eqvAll]; rfl
  | x :: xs, y :: ys => by
    simp only [List.map_cons, PyData.eqvAll, PyData.eqv]
    rw [eqvAll_strs xs ys]
    by_cases h : x = y
    · subst h
      rw [beq_self_eq_true, Bool.true_and]
      exact decide_eq_decide.mpr ⟨fun e => by rw [e], fun e => by injection e⟩
    · rw [show (x == y) = false from beq_eq_false_iff_ne.mpr h, Bool.false_and]
      exact (decide_eq_false fun e => h (by injection e)).symm
/-- xs != ys of texts -/
theorem neD_strs {K : PySem.W.Frag} {H : Hp} {a b : Addr} {xs ys : List Str} {Q : VK} (h1 : SqL K H a (xs.map V.str)) (h2 : SqL K H b (ys.map V.str)) (hx : ∀ x ∈ xs, PyData.strOk x = true) (hy : ∀ y ∈ ys, PyData.strOk y = true) (q : Q (.bl (!decide (xs = ys))) H) : rNeD K (.ref a) (.ref b) H Q := by
  refine ⟨_, _, .lst h1 (dpAll_strs xs), .lst h2 (dpAll_strs ys), shaped_strs hx, shaped_strs hy, ?_⟩
  have e : PyData.eqv (.list (xs.map PyData.str)) (.list (ys.map PyData.str)) = decide (xs = ys) := by
    simp only [PyData.eqv]
    exact eqvAll_strs xs ys
  rw [e]
  exact q
theorem seq_ix {r : Int} {n : Nat} (h0 : 0 ≤ r) (h1 : r < n) : seqIndex? r n = some r.toNat := (ixN_seq (by
  unfold ixN
  rw [if_pos h0, if_pos h1])).1
end UW
namespace UW
theorem perm_pick {α : Type} : ∀ (ls : List α) (k : Nat) (h : k < ls.length), (ls[k] :: ls.eraseIdx k).Perm ls
  | [], _, h => absurd h (Nat.not_lt_zero _)
  | x :: xs, 0, _ => List.Perm.refl _
  | x :: xs, k + 1, h => by
    have hk : k < xs.length := by simpa using h
    have ih := perm_pick xs k hk
    show (xs[k] :: x :: xs.eraseIdx k).Perm (x :: xs)
    exact (List.Perm.swap _ _ _).trans (List.Perm.cons x ih)
theorem map_pick {α β : Type} (f : α → β) : ∀ (ls : List α) (k : Nat), (ls.map f).eraseIdx k = (ls.eraseIdx k).map f
  | [], _ => rfl
  | x :: xs, 0 => rfl
  | x :: xs, k + 1 => by
    show f x :: (xs.map f).eraseIdx k = f x :: (xs.eraseIdx k).map f
    rw [map_pick f xs k]
end UW
namespace UW
open PySem L2
theorem cutV_to {xs : List V} {n : Nat} : cutV xs none (some (n : Int)) = xs.take n := by
  unfold cutV
  rw [show HT.sIx xs.length xs.length (some (n : Int)) = min n xs.length from HT.sIx_nat xs.length xs.length n, HT.sIx_none]
  show (xs.drop 0).take (min n xs.length - 0) = xs.take n
  rw [List.drop_zero, Nat.sub_zero]
  by_cases h : n ≤ xs.length
  · rw [Nat.min_eq_left h]
  · rw [Nat.min_eq_right (by omega), List.take_length, List.take_of_length_le (by omega)]
theorem menu_ix {zs : List Int} {r : Int} (h0 : 0 ≤ r) (h1 : r < zs.length) : ∃ z, z ∈ zs ∧ atI (zs.map V.int) r = some (.int z) := by
  obtain ⟨j, rfl⟩ := Int.eq_ofNat_of_zero_le h0
  have hj : j < zs.length := by omega
  exact ⟨zs[j], List.getElem_mem hj, atI_nat (by rw [List.getElem?_map, List.getElem?_eq_getElem hj]; rfl)⟩
theorem menu_str {zs : List Str} {r : Int} (h0 : 0 ≤ r) (h1 : r < zs.length) : ∃ z, z ∈ zs ∧ atI (zs.map V.str) r = some (.str z) := by
  obtain ⟨j, rfl⟩ := Int.eq_ofNat_of_zero_le h0
  have hj : j < zs.length := by omega
  exact ⟨zs[j], List.getElem_mem hj, atI_nat (by rw [List.getElem?_map, List.getElem?_eq_getElem hj]; rfl)⟩
/-! ### facts of units -/
/-- what a unit is made of -/
structure UF where
  kind : Str
  needs : List Str
  wants : List Str
  bars : List Str
  after : List Str
  opens : Option Str
  five : Option (Int × Int × Int × Int × Int)
deriving DecidableEq
def UF.named (u : UF) : List Str := u.needs ++ u.wants ++ u.bars ++ u.after ++ u.opens.toList
def optV : Option Str → V
  | none => .non
  | some x => .str x
def FiveAt (H : Hp) : V → Option (Int × Int × Int × Int × Int) → Prop
  | v, none => v = .non
  | v, some (f, m, t, b, s) => ∃ p, v = .ref p ∧ H p = some (.tup [.int f, .int m, .int t, .int b, .int s]) ∧ Five f m t b s
/-- the seven facts stand in a tuple -/
def FactAt (H : Hp) (v : V) (u : UF) : Prop := ∃ (t n w b a : Addr) (g : V), v = .ref t ∧ H t = some (.tup [.str u.kind, .ref n, .ref w, .ref b, .ref a, optV u.opens, g]) ∧
  H n = some (.tup (u.needs.map V.str)) ∧ H w = some (.tup (u.wants.map V.str)) ∧ H b = some (.tup (u.bars.map V.str)) ∧ H a = some (.tup (u.after.map V.str)) ∧ FiveAt H g u.five
def NotTup (H : Hp) (q : Addr) : Prop := ∀ xs, H q ≠ some (.tup xs)
theorem NotTup.ne {H : Hp} {q c : Addr} {xs : List V} (h : NotTup H q) (e : H c = some (.tup xs)) : c ≠ q := fun z => h xs (z ▸ e)
theorem NotTup.lst {H : Hp} {q : Addr} {xs : List V} (h : H q = some (.lst xs)) : NotTup H q := fun ys e => by rw [h] at e; cases e
theorem NotTup.dK {H : Hp} {q : Addr} {kvs : List (Key × V)} (h : H q = some (.dK kvs)) : NotTup H q := fun ys e => by rw [h] at e; cases e
theorem NotTup.none {H : Hp} {q : Addr} (h : H q = Option.none) : NotTup H q := fun ys e => by rw [h] at e; cases e
theorem Bag.notTup {n : Nat} {H : Hp} {p : Addr} (b : Bag n H p) : NotTup H p := by
  obtain ⟨_, _, _, h, _⟩ := b.ex
  exact .lst h
theorem FiveAt.keep {H H' : Hp} {q : Addr} {v : V} {o : Option (Int × Int × Int × Int × Int)} (h : FiveAt H v o) (k : Kp q H H') (n : NotTup H q) : FiveAt H' v o := by
  cases o with
  | none => exact h
  | some o =>
    obtain ⟨f, m, t, b, s⟩ := o
    obtain ⟨p, e, hp, F⟩ := h
    exact ⟨p, e, k _ _ hp (n.ne hp), F⟩
theorem FactAt.keep {H H' : Hp} {q : Addr} {v : V} {u : UF} (h : FactAt H v u) (k : Kp q H H') (n : NotTup H q) : FactAt H' v u := by
  obtain ⟨t, a1, a2, a3, a4, g, e, h0, h1, h2, h3, h4, h5⟩ := h
  exact ⟨t, a1, a2, a3, a4, g, e, k _ _ h0 (n.ne h0), k _ _ h1 (n.ne h1), k _ _ h2 (n.ne h2), k _ _ h3 (n.ne h3), k _ _ h4 (n.ne h4), h5.keep k n⟩
theorem FiveAt.same {H H' : Hp} {v : V} {o : Option (Int × Int × Int × Int × Int)} (h : FiveAt H v o) (s : Same H H') : FiveAt H' v o := by
  cases o with
  | none => exact h
  | some o =>
    obtain ⟨f, m, t, b, s'⟩ := o
    obtain ⟨p, e, hp, F⟩ := h
    exact ⟨p, e, s _ _ hp, F⟩
theorem FactAt.same {H H' : Hp} {v : V} {u : UF} (h : FactAt H v u) (s : Same H H') : FactAt H' v u := by
  obtain ⟨t, a1, a2, a3, a4, g, e, h0, h1, h2, h3, h4, h5⟩ := h
  exact ⟨t, a1, a2, a3, a4, g, e, s _ _ h0, s _ _ h1, s _ _ h2, s _ _ h3, s _ _ h4, h5.same s⟩
/-- a dict of facts by names -/
inductive FactsAt (H : Hp) : List (Key × V) → List (Str × UF) → Prop
  | nil : FactsAt H [] []
  | snoc {kvs : List (Key × V)} {us : List (Str × UF)} {w : Str} {v : V} {u : UF} (h : FactsAt H kvs us) (e : FactAt H v u) : FactsAt H (kvs ++ [(Sum.inr w, v)]) (us ++ [(w, u)])
theorem FactsAt.keep {H H' : Hp} {q : Addr} {kvs : List (Key × V)} {us : List (Str × UF)} (h : FactsAt H kvs us) (k : Kp q H H') (n : NotTup H q) : FactsAt H' kvs us := by
  induction h with
  | nil => exact .nil
  | snoc _ e ih => exact .snoc ih (e.keep k n)
theorem FactsAt.same {H H' : Hp} {kvs : List (Key × V)} {us : List (Str × UF)} (h : FactsAt H kvs us) (s : Same H H') : FactsAt H' kvs us := by
  induction h with
  | nil => exact .nil
  | snoc _ e ih => exact .snoc ih (e.same s)
theorem FactsAt.len {H : Hp} {kvs : List (Key × V)} {us : List (Str × UF)} (h : FactsAt H kvs us) : kvs.length = us.length := by
  induction h with
  | nil => rfl
  | snoc _ _ ih => rw [List.length_append, List.length_append, ih]; rfl
theorem FactsAt.keys {H : Hp} {kvs : List (Key × V)} {us : List (Str × UF)} (h : FactsAt H kvs us) : kvs.map (·.1) = us.map fun p => (Sum.inr p.1 : Key) := by
  induction h with
  | nil => rfl
  | snoc _ _ ih => rw [List.map_append, List.map_append, ih]; rfl
theorem FactsAt.free {H : Hp} {kvs : List (Key × V)} {us : List (Str × UF)} (h : FactsAt H kvs us) {w : Str} (hw : w ∉ us.map (·.1)) : valV kvs (Sum.inr w : Key) = none := by
  induction h with
  | nil => rfl
  | @snoc kvs us w' v u h e ih =>
    rw [List.map_append] at hw
    have h1 : w ∉ us.map (·.1) := fun z => hw (List.mem_append_left _ z)
    have h2 : w ≠ w' := fun z => hw (List.mem_append_right _ (List.mem_singleton.mpr z))
    have q1 := ih h1
    have hv : ∀ kvs : List (Key × V), valV kvs (Sum.inr w : Key) = none → valV (kvs ++ [((Sum.inr w' : Key), v)]) (Sum.inr w : Key) = none := by
      intro kvs
      induction kvs with
      | nil => exact fun _ => valV_neg (fun z => h2 (by cases z; rfl))
      | cons p r ih =>
        intro hn
        by_cases hp : p.1 = (Sum.inr w : Key)
        · rw [valV_pos hp] at hn
          cases hn
        · rw [valV_neg hp] at hn
          rw [List.cons_append, valV_neg hp]
          exact ih hn
    exact hv kvs q1
theorem FactsAt.get {H : Hp} {kvs : List (Key × V)} {us : List (Str × UF)} (h : FactsAt H kvs us) (hn : (us.map (·.1)).Nodup) : ∀ p ∈ us, ∃ v, valV kvs (Sum.inr p.1 : Key) = some v ∧ FactAt H v p.2 := by
  induction h with
  | nil => intro p hp; cases hp
  | @snoc kvs us w v u h e ih =>
    intro p hp
    rw [List.map_append] at hn
    obtain ⟨n1, _, n3⟩ := List.nodup_append.mp hn
    have hw : w ∉ us.map (·.1) := fun z => n3 w z w (List.mem_singleton.mpr rfl) rfl
    have hf := h.free hw
    rw [valV_snoc _ _ _ _ hf]
    rcases List.mem_append.mp hp with hp1 | hp
    · obtain ⟨v', hv', ha⟩ := ih n1 p hp1
      have hne : ¬ (Sum.inr p.1 : Key) = Sum.inr w := fun z => hw (by cases z; exact List.mem_map.mpr ⟨p, hp1, rfl⟩)
      exact ⟨v', by rw [if_neg hne]; exact hv', ha⟩
    · have e' := List.mem_singleton.mp hp
      subst e'
      exact ⟨v, by rw [if_pos rfl], e⟩
/-- what a drawn unit is -/
structure UOk (ns ss : List Str) (w : Str) (u : UF) : Prop where
  kd : u.kind = Str.ofString "work" ∨ u.kind = Str.ofString "goal" ∨ u.kind = Str.ofString "door"
  nN : u.needs.Nodup
  nW : u.wants.Nodup
  nB : u.bars.Nodup
  nA : u.after.Nodup
  lN : u.needs.length ≤ 8
  lW : u.wants.length ≤ 8
  lB : u.bars.length ≤ 8
  lA : u.after.length ≤ 8
  mem : ∀ x ∈ u.named, (x ∈ ns ∨ x ∈ ss) ∧ x ≠ w
  op1 : u.kind = Str.ofString "door" → u.opens ≠ none
  op2 : u.kind ≠ Str.ofString "door" → u.opens = none
end UW

namespace UW
open PySem L2
theorem cutV_bit (ss : List Str) (b : Bool) : ∃ m : Nat, cutV (ss.map V.str) none (some (if b = true then 1 else 0)) = (ss.take m).map V.str := by
  cases b
  · exact ⟨0, by rw [List.map_take]; exact cutV_to (n := 0)⟩
  · exact ⟨1, by rw [List.map_take]; exact cutV_to (n := 1)⟩
theorem cutV_strs (ss : List Str) (n : Nat) : cutV (ss.map V.str) none (some (n : Int)) = (ss.take n).map V.str := by
  rw [List.map_take]
  exact cutV_to
def rcands (x : Str) : List Str := (List.range 26).map fun i => (⟨#[122 - i]⟩ : Str) ++ x
theorem rcands_nodup (x : Str) : (rcands x).Nodup := by
  unfold rcands
  rw [List.nodup_iff_pairwise_ne, List.pairwise_map]
  refine List.Pairwise.imp_of_mem ?_ List.pairwise_lt_range
  intro a b ha hb hab e
  have ha := List.mem_range.mp ha
  have hb := List.mem_range.mp hb
  have h := congrArg (fun z : Str => z.cps.toList) e
  simp only [sign_app_tl] at h
  injection h with h _
  omega
theorem rcand_nm {i : Nat} (hi : i < 26) : Nm ((⟨#[122 - i]⟩ : Str) ++ Str.ofString "zz") := by
  have e : ((⟨#[122 - i]⟩ : Str) ++ Str.ofString "zz").cps.toList = (122 - i) :: [122, 122] := by
    rw [sign_app_tl]
    have : (Str.ofString "zz").cps.toList = [122, 122] := by decide +kernel
    rw [this]
  refine ⟨fun c hc => ?_, ?_, ?_⟩
  · rw [e] at hc
    rcases List.mem_cons.mp hc with rfl | hc
    · omega
    · rcases List.mem_cons.mp hc with rfl | hc
      · omega
      · rw [List.mem_singleton.mp hc]
        omega
  · rw [len_tl', e]
    exact Nat.zero_lt_succ _
  · rw [len_tl', e]
    show 3 ≤ 8
    omega
theorem filter_free {α : Type} [DecidableEq α] {cs ds : List α} (hn : cs.Nodup) (h : ds.length < cs.length) : 0 < (cs.filter fun x => decide (x ∉ ds)).length := by
  obtain ⟨c, hc, hd⟩ := free_in hn h
  exact List.length_pos_of_mem (List.mem_filter.mpr ⟨hc, decide_eq_true hd⟩)
theorem take_filter_snoc {α : Type} (f : α → Bool) {xs : List α} {i : Nat} {x : α} (h : xs[i]? = some x) : (xs.take (i + 1)).filter f = (xs.take i).filter f ++ (if f x = true then [x] else []) := by
  rw [List.take_add_one, h, List.filter_append]
  show _ ++ List.filter f [x] = _
  cases hf : f x
  · rw [List.filter_cons_of_neg (by rw [hf]; exact Bool.false_ne_true), if_neg Bool.false_ne_true]
    rfl
  · rw [List.filter_cons_of_pos hf, if_pos rfl]
    rfl
theorem map_str_get {xs : List Str} {i : Nat} {x : V} (h : (xs.map V.str)[i]? = some x) : ∃ w, xs[i]? = some w ∧ x = .str w := by
  rw [List.getElem?_map] at h
  cases hx : xs[i]? with
  | none => rw [hx] at h; cases h
  | some w => rw [hx] at h; exact ⟨w, rfl, by injection h with h; exact h.symm⟩
end UW

namespace UW
open PySem L2
/-- [z1, ..][take(bag, k)], the menu just laid at l -/
theorem pick_menu {K : PySem.W.Frag} {H : Hp} {p l : Addr} {n : Nat} (zs : List V) {k : Int} {Q : VK} {E' : XK} (B : Bag n H p) (hn : n < 900000000) (hl : H l = none) (hk : k = (zs.length : Int)) (hz0 : 0 < zs.length) (hz1 : zs.length < 1000)
    (q : ∀ (z : V) H', z ∈ zs → Bag (n + 1) H' p → Kp p H H' → Q z H') :
    spTake [.ref p, .int k] (upd H l (.lst zs)) (fun v H2 => rIxL K (.ref l) v H2 Q) E' := by
  subst hk
  generalize hE : upd H l _ = H1
  have k1 := new_at hE
  have s1 := new_same hE hl
  have npl := B.ne hl
  refine take_of (B.same s1) (by omega) (by omega) (by omega) fun r H2 r0 r1 B2 kp2 => ?_
  obtain ⟨j, rfl⟩ := Int.eq_ofNat_of_zero_le r0
  have hj : j < zs.length := by omega
  refine ⟨l, _, _, zs[j], rfl, rfl, SqL.of (kp2 _ _ k1 npl.symm), atI_nat (List.getElem?_eq_getElem hj), ?_⟩
  exact q _ H2 (List.getElem_mem hj) B2 ((Kp.of s1).trans kp2)
theorem mix_ok {ns ss zs : List Str} {w : Str} (hn : ns.Nodup) (hs : ss.Nodup) (hm : ∀ x ∈ ns, Nm x) (ht : ∀ x ∈ ss, Nm x ∧ x ∉ ns) (h1 : ns.length ≤ 20) (h2 : ss.length ≤ 2) (hw : w ∈ ns) (hz : zs.Sublist ss) :
    ((ns.filter fun x => decide (x ≠ w)) ++ zs).Nodup ∧ ((ns.filter fun x => decide (x ≠ w)) ++ zs).length ≤ 100 ∧ (∀ x ∈ (ns.filter fun x => decide (x ≠ w)) ++ zs, Nm x) ∧ ∀ x ∈ (ns.filter fun x => decide (x ≠ w)) ++ zs, (x ∈ ns ∨ x ∈ ss) ∧ x ≠ w := by
  have key : ∀ x ∈ (ns.filter fun x => decide (x ≠ w)) ++ zs, Nm x ∧ (x ∈ ns ∨ x ∈ ss) ∧ x ≠ w := fun x hx => by
    rcases List.mem_append.mp hx with hx | hx
    · obtain ⟨a, b⟩ := List.mem_filter.mp hx
      exact ⟨hm x a, .inl a, of_decide_eq_true b⟩
    · have hx' := hz.subset hx
      exact ⟨(ht x hx').1, .inr hx', fun e => (ht x hx').2 (e ▸ hw)⟩
  refine ⟨List.nodup_append.mpr ⟨List.Nodup.sublist List.filter_sublist hn, List.Nodup.sublist hz hs, fun a ha b hb e => ?_⟩, ?_, fun x hx => (key x hx).1, fun x hx => (key x hx).2⟩
  · exact (ht b (hz.subset hb)).2 (e ▸ (List.mem_filter.mp ha).1)
  · rw [List.length_append]
    have := hz.length_le
    have := List.length_filter_le (fun x => decide (x ≠ w)) ns
    omega
end UW

namespace UW
open PySem L2
theorem tup_same {K : PySem.W.Frag} {H H' : Hp} {a : Addr} {xs : List V} (e : Same H H') (h : SqT K H a xs) : SqT K H' a xs := SqT.ext h e
/-- what isn't a tuple, nor a frozen one -/
def NotTp (H : Hp) (q : Addr) : Prop := ∀ xs, H q ≠ some (.tup xs) ∧ ∀ o, H q ≠ some (.frz o (.tup xs))
theorem NotTp.lst {H : Hp} {q : Addr} {xs : List V} (h : H q = some (.lst xs)) : NotTp H q := fun ys => ⟨(fun e => by rw [h] at e; cases e), (fun o e => by rw [h] at e; cases e)⟩
theorem NotTp.dK {H : Hp} {q : Addr} {xs : List (Key × V)} (h : H q = some (.dK xs)) : NotTp H q := fun ys => ⟨(fun e => by rw [h] at e; cases e), (fun o e => by rw [h] at e; cases e)⟩
theorem NotTp.ins {H : Hp} {q C dx : Addr} {fs : List (Str × V)} (h : H q = some (.ins C dx fs)) : NotTp H q := fun ys => ⟨(fun e => by rw [h] at e; cases e), (fun o e => by rw [h] at e; cases e)⟩
theorem Bag.notTp {n : Nat} {H : Hp} {p : Addr} (b : Bag n H p) : NotTp H p := by
  obtain ⟨_, _, _, h, _⟩ := b.ex
  exact .lst h
theorem Kp.tup {K : PySem.W.Frag} {H H' : Hp} {q a : Addr} {xs : List V} (k : Kp q H H') (n : NotTp H q) (h : SqT K H a xs) : SqT K H' a xs := by
  rcases h with (h | ⟨o, h⟩) | h
  · exact .inl (.inl (k _ _ h fun e => (n xs).1 (e ▸ h)))
  · exact .inl (.inr ⟨o, k _ _ h fun e => (n xs).2 o (e ▸ h)⟩)
  · exact .inr h
end UW

namespace UW
open PySem L2
theorem shaped_strsT {xs : List Str} (h : ∀ x ∈ xs, PyData.strOk x = true) : SeqAt.shaped (.tuple (xs.map PyData.str)) = true := by
  have := shaped_strs h
  unfold SeqAt.shaped at *
  simp only [PyData.canLay0, PyData.depth] at *
  exact this
theorem eqD_strsT {K : PySem.W.Frag} {H : Hp} {a b : Addr} {xs ys : List Str} {Q : VK} (h1 : SqT K H a (xs.map V.str)) (h2 : SqT K H b (ys.map V.str)) (hx : ∀ x ∈ xs, PyData.strOk x = true) (hy : ∀ y ∈ ys, PyData.strOk y = true) (q : Q (.bl (decide (xs = ys))) H) : rEqD K (.ref a) (.ref b) H Q := by
  refine ⟨_, _, .tup h1 (dpAll_strs xs), .tup h2 (dpAll_strs ys), shaped_strsT hx, shaped_strsT hy, ?_⟩
  have e : PyData.eqv (.tuple (xs.map PyData.str)) (.tuple (ys.map PyData.str)) = decide (xs = ys) := by
    simp only [PyData.eqv]
    exact eqvAll_strs xs ys
  rw [e]
  exact q
theorem dec_str {x y : Str} : decide (V.str x = V.str y) = decide (x = y) := decide_eq_decide.mpr ⟨fun e => by cases e; rfl, fun e => by rw [e]⟩
theorem dec_optV {x y : Option Str} : decide (optV x = optV y) = decide (x = y) := decide_eq_decide.mpr ⟨fun e => by
  cases x with
  | none => cases y with
    | none => rfl
    | some y => cases e
  | some x => cases y with
    | none => cases e
    | some y => cases e; rfl, fun e => by rw [e]⟩
theorem scal_optV (x y : Option Str) : scal (optV x) (optV y) = true := by
  cases x <;> cases y <;> rfl
end UW

namespace UW
open PySem L2
theorem neF {x : V} {A B : Prop} (h : B) : if (!decide (x = x)) = true then A else B := by
  rw [decide_eq_true rfl]
  exact iteF h
theorem eqv_strsT (xs : List Str) : PyData.eqv (.tuple (xs.map PyData.str)) (.tuple (xs.map PyData.str)) = true := by
  simp only [PyData.eqv]
  rw [eqvAll_strs]
  exact decide_eq_true rfl
theorem neD_quad {K : PySem.W.Frag} {H : Hp} {l l' a1 a2 a3 a4 b1 b2 b3 b4 : Addr} {x1 x2 x3 x4 : List Str} {Q : VK} (hl : SqL K H l [.ref a1, .ref a2, .ref a3, .ref a4]) (hl' : SqL K H l' [.ref b1, .ref b2, .ref b3, .ref b4])
    (h1 : SqT K H a1 (x1.map V.str)) (h2 : SqT K H a2 (x2.map V.str)) (h3 : SqT K H a3 (x3.map V.str)) (h4 : SqT K H a4 (x4.map V.str)) (g1 : SqT K H b1 (x1.map V.str)) (g2 : SqT K H b2 (x2.map V.str)) (g3 : SqT K H b3 (x3.map V.str)) (g4 : SqT K H b4 (x4.map V.str))
    (k1 : ∀ x ∈ x1, PyData.strOk x = true) (k2 : ∀ x ∈ x2, PyData.strOk x = true) (k3 : ∀ x ∈ x3, PyData.strOk x = true) (k4 : ∀ x ∈ x4, PyData.strOk x = true) (q : Q (.bl false) H) : rNeD K (.ref l) (.ref l') H Q := by
  have sh : SeqAt.shaped (.list [.tuple (x1.map PyData.str), .tuple (x2.map PyData.str), .tuple (x3.map PyData.str), .tuple (x4.map PyData.str)]) = true := by
    refine Bool.and_eq_true_iff.mpr ⟨?_, decide_eq_true ?_⟩
    · simp only [PyData.canLay0, PyData.canLayAll0]
      rw [(layAll_strs k1).1, (layAll_strs k2).1, (layAll_strs k3).1, (layAll_strs k4).1]
      rfl
    · simp only [PyData.depth, PyData.depthAll]
      rw [(layAll_strs k1).2, (layAll_strs k2).2, (layAll_strs k3).2, (layAll_strs k4).2]
      decide
  refine ⟨_, _, .lst hl (.cons (.tup h1 (dpAll_strs x1)) (.cons (.tup h2 (dpAll_strs x2)) (.cons (.tup h3 (dpAll_strs x3)) (.cons (.tup h4 (dpAll_strs x4)) .nil)))), .lst hl' (.cons (.tup g1 (dpAll_strs x1)) (.cons (.tup g2 (dpAll_strs x2)) (.cons (.tup g3 (dpAll_strs x3)) (.cons (.tup g4 (dpAll_strs x4)) .nil)))), sh, sh, ?_⟩
  have e : PyData.eqv (.list [.tuple (x1.map PyData.str), .tuple (x2.map PyData.str), .tuple (x3.map PyData.str), .tuple (x4.map PyData.str)]) (.list [.tuple (x1.map PyData.str), .tuple (x2.map PyData.str), .tuple (x3.map PyData.str), .tuple (x4.map PyData.str)]) = true := by
    rw [show ∀ xs ys, PyData.eqv (.list xs) (.list ys) = PyData.eqvAll xs ys from fun xs ys => by simp only [PyData.eqv]]
    simp only [PyData.eqvAll]
    rw [eqv_strsT, eqv_strsT, eqv_strsT, eqv_strsT]
    rfl
  rw [e]
  exact q
end UW
namespace UW
open PySem PySem.Spec PyProof.Rows L2
section
variable {prog : Program} {w : World} {A : Around} {E : Value → Shared → Prop} {s : Shared}
theorem adjust_back (n : Nat) : Builtin.Slice.sliceAdjust none none (-1) (n : Int) = ((n : Int) - 1, -1) := rfl
theorem places_back (n : Nat) : Builtin.Slice.slicePlaces ((n : Int) - 1) (-1) (-1) = n := by
  unfold Builtin.Slice.slicePlaces
  rw [if_neg (by decide), show (- -1 : Int) = 1 by decide, Int.ediv_one]
  split <;> omega
theorem applied_back {sl : Addr} {vs : Value} {n : Nat} {Q : Int × Int × Nat → Shared → Prop} (hs : s.heap.IsSliceOf sl .none .none vs) (ps : IsPart vs (some (-1))) (h : Q ((n : Int) - 1, -1, n) s) :
    wpAny (model prog w) A (Builtin.Slice.sliceApplied (.ref sl) (pure (n : Int))) Q E s := by
  obtain ⟨os, hos, _, hds⟩ := id hs
  unfold Builtin.Slice.sliceApplied Builtin.Slice.sliceFields
  refine wpAny_bind (wpAny_bind (wpAny_field hos hds (x := .none) rfl (wpAny_bind (wpAny_field hos hds (x := .none) rfl (wpAny_bind (wpAny_field hos hds (x := vs) rfl (wpAny_pure ?_)))))))
  refine wpAny_bind (HT.slicePart_ ps ?_)
  show wpAny _ _ (if ((-1 : Int) == 0) = true then _ else _) _ _ s
  rw [if_neg (by decide)]
  refine wpAny_bind (slicePart_none (wpAny_bind (slicePart_none (wpAny_bind (wpAny_pure ?_)))))
  show wpAny _ _ (pure ((n : Int) - 1, (-1 : Int), Builtin.Slice.slicePlaces ((n : Int) - 1) (-1) (-1))) _ _ s
  rw [places_back]
  exact wpAny_pure h
theorem fm_congr {α β : Type} {f g : α → Option β} : ∀ {l : List α}, (∀ x ∈ l, f x = g x) → l.filterMap f = l.filterMap g
  | [], _ => rfl
  | x :: l, h => by rw [List.filterMap_cons, List.filterMap_cons, h x (List.mem_cons_self ..), fm_congr fun y hy => h y (List.mem_cons_of_mem _ hy)]
theorem pick_back (xs : Array Value) : ((List.range xs.size).filterMap fun (m : Nat) => xs[((xs.size : Int) - 1 + (m : Int) * (-1)).toNat]?).toArray = xs.toList.reverse.toArray := by
  have e : (List.range xs.size).filterMap (fun (m : Nat) => xs[((xs.size : Int) - 1 + (m : Int) * (-1)).toNat]?) = ((List.range xs.size).map fun k => xs.size - 1 - k).filterMap (xs[·]?) := by
    rw [List.filterMap_map]
    refine fm_congr fun m hm => ?_
    have : ((xs.size : Int) - 1 + (m : Int) * (-1)).toNat = xs.size - 1 - m := by
      have := List.mem_range.mp hm
      omega
    show xs[_]? = xs[_]?
    rw [this]
  rw [e, PySem.W.krv_range, List.filterMap_reverse, PySem.W.krv_all]
theorem getItem_back {t sl : Addr} {items : Array Value} {vs : Value} {Q : Value → Shared → Prop} (ht : IsTup s.heap t items) (hs : s.heap.IsSliceOf sl .none .none vs) (ps : IsPart vs (some (-1)))
    (h : Q (.ref s.heap.objs.size) { s with heap := s.heap.push { cls := .type "tuple", data := .seq items.toList.reverse.toArray } }) (hsz : items.size ≤ sizeLine) : wpAny (model prog w) A (getItem (.ref t) (.ref sl)) Q E s := by
  have hok : sizeOk (.seq items.toList.reverse.toArray) := by
    show items.toList.reverse.toArray.size ≤ sizeLine
    rw [List.size_toArray, List.length_reverse, Array.length_toList]
    exact hsz
  have hTs : s.TypeIs (.ref sl) "slice" := by
    obtain ⟨os, hos, hcs, _⟩ := id hs
    exact ⟨os, hos, hcs⟩
  unfold getItem
  try with_reducible refine wpAny_holding ?_
  first | refine wpAny_bind (wpAny_pure ?_) | skip
  refine wpAny_bind (wpAny_sequenceKey ht.typeIs (by decide) ?_)
  refine wpAny_bind (wpAny_callSpecial?_slot (name := Str.ofString "__getitem__") ht.typeIs PyProof.Rows.slot_tuple_getitem
    (wpAny_call_entry PyProof.Rows.slot_tuple_getitem ht.typeIs entry_tuple_getitem ?_ (args_tuple_getitem _ _)))
  show wpAny _ _ (Builtin.Tuple.tupleItemsOf (.ref t) >>= _) _ _ s
  refine wpAny_bind (tupleItemsOf_ ht (wpAny_bind (wpAny_typeOf hTs ?_)))
  rw [if_pos (by decide)]
  refine wpAny_bind (applied_back hs ps ?_)
  show wpAny _ _ (if (((items.size : Int) - 1) == 0 && (-1 : Int) == 1 && items.size == items.size) = true then _ else _) _ _ s
  rw [if_neg (by rw [show ((-1 : Int) == 1) = false from rfl, Bool.and_false, Bool.false_and]; exact Bool.false_ne_true), pick_back]
  exact wpAny_bind (m := Builtin.Tuple.tupleExact _) (wpAny_newObj_type (wpAny_pure ⟨_, rfl, wpAny_pure h⟩) hok)
end
section
variable {X : Cx}
def tRevT (K : PySem.W.Frag) (te : TE) : TE := fun σ H Q => te σ H fun x H1 => ∃ a xs, x = .ref a ∧ SqT K H1 a xs ∧ ∀ p, H1 p = none → Q (.ref p) (upd H1 p (.tup xs.reverse))
theorem pe_revT {e : Expr} {te : TE} {k : Nat} {p1 p2 p3 pos : Pos} (he : PE X e te) : PE X (.Subscript e (.Slice none none (some (.UnaryOp .USub (.Constant (.int 1) k p1) p2)) p3) pos) (tRevT X.K te) := by
  refine ⟨fun pins s σ H Q I h => Subscript_ (thn (he.run pins s σ H _ I h) fun v s1 ⟨x, H1, I1, r1, q1⟩ => ?_)⟩
  obtain ⟨a, xs, ex, hx, q⟩ := q1
  subst ex
  cases r1
  have hst : PO X (some (.UnaryOp .USub (.Constant (.int 1) k p1) p2)) (tPart (tUn (rU fun i => .int (-i)) (tC (.int 1)))) := po_some (pe_un un_neg pe_int)
  refine wpAny_Slice (thn (po_none.run pins s1 σ H1 (fun o H2 => o = none ∧ H2 = H1) I1 ⟨rfl, rfl⟩) fun vl s2 ⟨l, H2, I2, pl, el, e2⟩ => ?_)
  subst el e2
  refine thn (po_none.run pins s2 σ H2 (fun o H3 => o = none ∧ H3 = H2) I2 ⟨rfl, rfl⟩) fun vu s3 ⟨u, H3, I3, pu, eu, e3⟩ => ?_
  subst eu e3
  refine thn (hst.run pins s3 σ H3 (fun o H4 => o = some (-1) ∧ H4 = H3) I3 ⟨1, rfl, -1, rfl, rfl, rfl⟩) fun vs s4 ⟨o, H4, I4, ps, eo, e4⟩ => ?_
  subst eo e4
  cases pl
  cases pu
  have I5 : Inv X pins σ H4 { s4 with heap := s4.heap.push { cls := .type "slice", data := .fields #[.none, .none, vs] } } := I4.kept (t' := s4.toks) fun b ob q => Heap.get?_push_of_some _ q
  obtain ⟨its, r, ht, hz⟩ := I5.tuple hx
  have hlen := r.length
  show wpAny (model X.prog X.w) X.A (subscriptTail e (.Slice none none (some (.UnaryOp .USub (.Constant (.int 1) k p1) p2)) p3) (.ref a) (.ref s4.heap.objs.size)) (EP X pins σ Q) X.xe { s4 with heap := s4.heap.push { cls := .type "slice", data := .fields #[.none, .none, vs] } }
  refine tail_any (ops := [.ref a, .ref s4.heap.objs.size]) ht.typeIs (PyProof.Rows.slot_tuple_getitem.lookup) ?_ (by with_unfolding_all rfl)
  refine getItem_back ht (Heap.IsSliceOf.new _ .none .none vs) ps ?_ (by rw [List.size_toArray]; omega)
  refine ⟨.ref _, _, I5.laid (t' := s4.toks) (o := .tup xs.reverse) (fun b ob q => Heap.get?_push_of_some _ q) (Nat.le_refl _) ?_, rfl, q _ (I5.hok.fresh (Nat.le_refl _))⟩
  exact ⟨by rw [List.length_reverse]; exact hz, _, r.reverse, IsTup.new _ _⟩
end
end UW

namespace UW
open PySem L2
theorem inV_mem (y : Str) (us : List V) : inV (.str y) us = true ↔ V.str y ∈ us := by
  unfold inV
  rw [List.any_eq_true]
  refine ⟨fun ⟨v, hv, e⟩ => ?_, fun h => ⟨_, h, by simp [eqV]⟩⟩
  have : v = .str y := by
    cases v <;> simp [eqV] at e
    rw [e]
  exact this ▸ hv
/-- the candidates that aren't among the given things -/
def frees (x : Str) (us : List V) : List Str := (cands x).filter fun y => !inV (.str y) us
theorem frees_ok {x : Str} {us : List V} {ds : List Str} (h : ∀ y, V.str y ∈ us → y ∈ ds) (hl : ds.length < 26) : ∃ z zs, frees x us = z :: zs ∧ V.str z ∉ us ∧ z ∈ cands x := by
  obtain ⟨c, hc, hd⟩ := free_in (cands_nodup x) (ds := ds) (by unfold cands; rw [List.length_map, List.length_range]; exact hl)
  have hm : c ∈ frees x us := List.mem_filter.mpr ⟨hc, by
    cases he : inV (.str c) us
    · rfl
    · exact absurd (h c ((inV_mem c us).mp he)) hd⟩
  cases hf : frees x us with
  | nil => rw [hf] at hm; cases hm
  | cons z zs =>
    have hz : z ∈ frees x us := by rw [hf]; exact List.mem_cons_self ..
    obtain ⟨h1, h2⟩ := List.mem_filter.mp hz
    refine ⟨z, zs, rfl, fun e => ?_, h1⟩
    rw [(inV_mem z us).mpr e] at h2
    exact Bool.false_ne_true h2
theorem cand_len {x z : Str} (h : z ∈ cands x) : z.length = 1 + x.length := by
  obtain ⟨i, _, rfl⟩ := List.mem_map.mp h
  rw [len_tl', sign_app_tl, List.length_cons, ← len_tl']
  omega
end UW
/-! own layer: objects with their own ==, !=, in, str, repr -/
namespace UO
open PySem PySem.Spec PyProof.Rows L2

section
variable {X : Cx} {CX : CXT} {n : Nat} {f C : Addr} {fd : FuncData} {ps : List Str} {sp : Sp} {E : XK}
/-- a def called from within a builtin -/
theorem call_sub (F : FnOk X.prog X.w X.K X.mg X.base CX n f fd ps sp) (hb : Binds X.K fd ps []) (hx : Passes CX X E) {A : Around} (sb : Sub X n A) {pins : List (Addr × Obj)} {σ : L2.St} {H : Hp} {s : Shared} (I : L2.Inv X pins σ H s)
    {vs : List V} {us : List Value} (r : Vals vs us) {Q : VK} (h : sp vs H Q E) : wpAny (model X.prog X.w) A (call (.ref f) us) (EP X pins σ Q) X.xe s := by
  have e0 : Env0 X.prog X.w X.K X.mg X.base A X.stack s H := by
    have e := I.env0
    exact ⟨by rw [sb.fr]; exact e.frames, e.mod, e.bs, e.bsz, e.funs, e.frf, e.hok, e.bare⟩
  have hl := F.len _ _ _ _ h
  refine wpAny_call (codeAny_mono (F.run A X.stack s H ⟨us, []⟩ us vs _ E sb.room e0 (by
    have := hb s us I.kIn (by rw [List.append_nil, ← r.length]; exact hl)
    rw [List.append_nil] at this
    exact this) r h) fun r s' hq => ?_)
  cases r with
  | error e => exact hx pins σ H s e s' I hq
  | ok fl =>
    cases fl with
    | ret w => exact I.after hq
    | next => exact False.elim hq
    | brk => exact False.elim hq
    | cont => exact False.elim hq

/-- == of two values, by what is asked of them: a truth, and the heap behind it -/
def RcO (X : Cx) (n : Nat) (r : R2) : Prop :=
  ∀ (A : Around) (pins : List (Addr × Obj)) (s : Shared) (σ : L2.St) (H : Hp) (x y : V) (u v : Value) (Q : VK), Sub X n A → L2.Inv X pins σ H s → RelV x u → RelV y v → r x y H Q →
    wpAny (model X.prog X.w) A (richCompare .Eq u v) (fun t s' => ∃ b H', t = .bool b ∧ L2.Inv X pins σ H' s' ∧ Q (.bl b) H') X.xe s
def EqO (X : Cx) (n : Nat) (r : R2) : Prop :=
  ∀ (A : Around) (pins : List (Addr × Obj)) (s : Shared) (σ : L2.St) (H : Hp) (x y : V) (u v : Value) (Q : VK), Sub X n A → L2.Inv X pins σ H s → RelV x u → RelV y v → r x y H Q →
    wpAny (model X.prog X.w) A (eqBool u v) (fun b s' => ∃ H', L2.Inv X pins σ H' s' ∧ Q (.bl b) H') X.xe s
theorem op_rc {r : R2} (h : RcO X n r) (hr : Room n X.A) : OpR X (compareOp .Eq) r := by
  intro pins s σ H x y v u Q I rx ry hq
  show wpAny (model X.prog X.w) X.A (richCompare .Eq v u) (EP X pins σ Q) X.xe s
  refine wpAny_mono (h X.A pins s σ H x y v u Q ⟨hr, rfl⟩ I rx ry hq) (fun t s' z => ?_) fun _ _ x => x
  obtain ⟨b, H', rfl, I', q⟩ := z
  exact ⟨.bl b, H', I', rfl, q⟩
/-- two values that are not one object -/
def apart : V → V → Prop
  | .ref a, .ref b => a ≠ b
  | .ref _, .flt _ => False
  | .flt _, _ => False
  | .ref _, _ => True
  | _, .ref _ => True
  | _, _ => False
theorem eqBool_apart {prog : Program} {w : World} {A : Around} {E : Value → Shared → Prop} {s : Shared} {u v : Value} {x y : V} {Q : Bool → Shared → Prop} (ha : apart x y) (rx : RelV x u) (ry : RelV y v)
    (h : wpAny (model prog w) A (richCompare .Eq u v) (fun t s' => ∃ b, t = .bool b ∧ Q b s') E s) : wpAny (model prog w) A (eqBool u v) Q E s := by
  have fin : ∀ (u v : Value), (u == v) = false → (wpAny (model prog w) A (eqBool u v) Q E s = wpAny (model prog w) A (holding [u, v] (if (u == v) = true then (do rule "eq-bool.same-object"; return true) else (do truthOfDropped (← richCompare .Eq u v)))) Q E s) →
      wpAny (model prog w) A (richCompare .Eq u v) (fun t s' => ∃ b, t = .bool b ∧ Q b s') E s → wpAny (model prog w) A (eqBool u v) Q E s := fun u v k e h => by
    rw [e]
    refine wpAny_holding ?_
    rw [k]
    show wpAny _ _ (do truthOfDropped (← richCompare .Eq u v)) _ _ _
    refine wpAny_bind (wpAny_mono h (fun t s' z => ?_) fun _ _ x => x)
    obtain ⟨b, rfl, q⟩ := z
    exact wpAny_truthy_bool q
  cases x with
  | ref a =>
    cases (show u = Value.ref a from rx)
    cases y with
    | ref b =>
      cases (show v = Value.ref b from ry)
      refine fin _ _ ?_ rfl h
      cases q : (Value.ref a == Value.ref b) with
      | false => rfl
      | true => exact absurd (by have := eq_of_beq q; injection this) ha
    | non => cases (show v = Value.none from ry); exact fin _ _ rfl rfl h
    | bl b => cases (show v = Value.bool b from ry); exact fin _ _ rfl rfl h
    | int i => obtain ⟨t, rfl⟩ := (show ∃ t, v = Value.int i t from ry); exact fin _ _ rfl rfl h
    | str z => obtain ⟨t, rfl⟩ := (show ∃ t, v = Value.str z t from ry); exact fin _ _ rfl rfl h
    | byt z => obtain ⟨t, rfl⟩ := (show ∃ t, v = Value.bytes z t from ry); exact fin _ _ rfl rfl h
    | flt z => exact False.elim ha
    | ty z => cases (show v = Value.type z from ry); exact fin _ _ rfl rfl h
  | _ =>
    cases y with
    | ref b =>
      cases (show v = Value.ref b from ry)
      first
        | exact False.elim ha
        | (cases (show u = Value.none from rx); exact fin _ _ rfl rfl h)
        | (cases (show u = Value.bool _ from rx); exact fin _ _ rfl rfl h)
        | (obtain ⟨t, rfl⟩ := (show ∃ t, u = Value.int _ t from rx); exact fin _ _ rfl rfl h)
        | (obtain ⟨t, rfl⟩ := (show ∃ t, u = Value.str _ t from rx); exact fin _ _ rfl rfl h)
        | (obtain ⟨t, rfl⟩ := (show ∃ t, u = Value.bytes _ t from rx); exact fin _ _ rfl rfl h)
        | (cases (show u = Value.type _ from rx); exact fin _ _ rfl rfl h)
    | _ => exact False.elim ha
theorem RcO.eqO {r : R2} (h : RcO X n r) (ha : ∀ x y H Q, r x y H Q → apart x y) : EqO X n r := by
  intro A pins s σ H x y u v Q sb I rx ry hq
  refine eqBool_apart (ha x y H Q hq) rx ry (wpAny_mono (h A pins s σ H x y u v Q sb I rx ry hq) (fun t s' z => ?_) fun _ _ x => x)
  obtain ⟨b, H', rfl, I', q⟩ := z
  exact ⟨b, rfl, H', I', q⟩

def rAp (r : R2) : R2 := fun x y H Q => apart x y ∧ r x y H Q
theorem RcO.ap {r : R2} (h : RcO X n r) : EqO X n (rAp r) := RcO.eqO (r := rAp r) (fun A pins s σ H x y u v Q sb I rx ry hq => h A pins s σ H x y u v Q sb I rx ry hq.2) fun x y H Q hq => hq.1

/-! ### an instance on the left -/
def rEqO (K : PySem.W.Frag) (C : Addr) (sp : Sp) (E : XK) : R2 := fun x y H Q => ∃ a dx fs t, x = .ref a ∧ H a = some (.ins C dx fs) ∧ TyX K H y t ∧ PySem.W.notFirst K C t = true ∧ sp [x, y] H (fun v H' => ∃ b, v = .bl b ∧ Q (.bl b) H') E
theorem rc_left (F : FnOk X.prog X.w X.K X.mg X.base CX n f fd ps sp) (hs : PySem.W.findIn X.K (.ref C) "__eq__" = some (some (.ref f))) (hf : PySem.W.isFn X.K (.ref f) = true) (hb : Binds X.K fd ps []) (hx : Passes CX X E) : RcO X n (rEqO X.K C sp E) := by
  intro A pins s σ H x y u v Q sb I rx ry hq
  obtain ⟨a, dx, fs, t, rfl, ha, ty, hn, q⟩ := hq
  cases rx
  obtain ⟨mA, J, _⟩ := ins_get I.hok ha
  obtain ⟨od, J, _⟩ := J.look
  obtain ⟨m, hF⟩ := I.fr
  obtain ⟨P, Z, p, _⟩ := kit_of I ry ty
  refine PySem.W.cmp_K (op := .Eq) (tb := t) sb.room.units0 hF I.ok.mod.kin J (Z.ty _ _ I.kIn p) hn hs hf ?_
  have r2 : Vals [V.ref a, y] [Value.ref a, v] := .cons rfl (.cons ry .nil)
  refine wpAny_mono (call_sub F hb hx sb I r2 q) (fun r s' z => ?_) fun _ _ x => x
  obtain ⟨z, H', I', rz, b, rfl, q'⟩ := z
  cases (show r = Value.bool b from rz)
  exact ⟨b, H', rfl, I', q'⟩
end

/-! ### built-in values that decline to be compared with an instance -/
section
open AutoSeq1 (wpAny_loadPart')
open MeetsSeq
theorem int_declines (b : Int) (u : Tok) (l C dx : Addr) : Meets (Builtin.«int.__eq__» ⟨[.int b u, .ref l], []⟩) (fun _ R s => s.heap.get? l = some (PySem.W.instObj C dx) ∧ R (.ok (.ret .notImplemented)) s) :=
  .of_wp fun prog w A R s h => by obtain ⟨hp, g, d, tk, os⟩ := s; obtain ⟨hl, h⟩ := h; unfold PySem.W.instObj at hl; wp_walk using wpAny_loadPart' hl, wpAny_load hl; exact ⟨_, rfl, h⟩
theorem bool_declines (b : Bool) (l C dx : Addr) : Meets (Builtin.«int.__eq__» ⟨[.bool b, .ref l], []⟩) (fun _ R s => s.heap.get? l = some (PySem.W.instObj C dx) ∧ R (.ok (.ret .notImplemented)) s) :=
  .of_wp fun prog w A R s h => by obtain ⟨hp, g, d, tk, os⟩ := s; obtain ⟨hl, h⟩ := h; unfold PySem.W.instObj at hl; wp_walk using wpAny_loadPart' hl, wpAny_load hl; exact ⟨_, rfl, h⟩
theorem str_declines (b : Str) (u : Tok) (l C dx : Addr) : Meets (Builtin.«str.__eq__» ⟨[.str b u, .ref l], []⟩) (fun _ R s => s.heap.get? l = some (PySem.W.instObj C dx) ∧ R (.ok (.ret .notImplemented)) s) :=
  .of_wp fun prog w A R s h => by obtain ⟨hp, g, d, tk, os⟩ := s; obtain ⟨hl, h⟩ := h; unfold PySem.W.instObj at hl; wp_walk using wpAny_loadPart' hl, wpAny_load hl; exact ⟨_, rfl, h⟩
theorem list_declines (p l C dx : Addr) (items : Array Value) (k : Nat) (dd : Option Addr) (sl : Array (Option Value)) : Meets (Builtin.«list.__eq__» ⟨[.ref p, .ref l], []⟩)
    (fun A R s => s.heap.get? p = some { cls := .type "list", dict := dd, data := .seq items k, slots := sl } ∧ s.heap.get? l = some (PySem.W.instObj C dx) ∧ (∀ M : Model, PySem.W.Looks M s.heap (isSubtype (.ref C) (.type "list")) false) ∧ R (.ok (.ret .notImplemented)) s) :=
  .of_wp fun prog w A R s h => by
    obtain ⟨hp, g, d, tk, os⟩ := s
    obtain ⟨h1, hl, hs, h⟩ := h
    unfold PySem.W.instObj at hl
    have f1 : ∀ {A : Around} {E : Value → Shared → Prop} {Q : Bool → Shared → Prop}, Q false ⟨hp, g, d, tk, os⟩ → wpAny (model prog w) A (isSubtype (.ref C) (.type "list")) Q E ⟨hp, g, d, tk, os⟩ := fun q => (hs _).here q
    wp_walk using wpAny_loadPart' h1, wpAny_loadPart' hl, f1
    exact ⟨_, rfl, h⟩
theorem tuple_declines (p l C dx : Addr) (items : Array Value) (k : Nat) (dd : Option Addr) (sl : Array (Option Value)) : Meets (Builtin.«tuple.__eq__» ⟨[.ref p, .ref l], []⟩)
    (fun A R s => s.heap.get? p = some { cls := .type "tuple", dict := dd, data := .seq items k, slots := sl } ∧ s.heap.get? l = some (PySem.W.instObj C dx) ∧ (∀ M : Model, PySem.W.Looks M s.heap (isSubtype (.ref C) (.type "tuple")) false) ∧ R (.ok (.ret .notImplemented)) s) :=
  .of_wp fun prog w A R s h => by
    obtain ⟨hp, g, d, tk, os⟩ := s
    obtain ⟨h1, hl, hs, h⟩ := h
    unfold PySem.W.instObj at hl
    have f1 : ∀ {A : Around} {E : Value → Shared → Prop} {Q : Bool → Shared → Prop}, Q false ⟨hp, g, d, tk, os⟩ → wpAny (model prog w) A (isSubtype (.ref C) (.type "tuple")) Q E ⟨hp, g, d, tk, os⟩ := fun q => (hs _).here q
    wp_walk using wpAny_loadPart' h1, wpAny_loadPart' hl, f1
    exact ⟨_, rfl, h⟩
end

section
variable {X : Cx} {CX : CXT} {n : Nat} {f C : Addr} {fd : FuncData} {ps : List Str} {sp : Sp} {E : XK}
/-- a built-in value on the left that declines, an instance on the right -/
theorem rc_refl {prog : Program} {w : World} {A : Around} {E : Value → Shared → Prop} {s : Shared} {K : PySem.W.Frag} {u : Value} {b C f : Addr} {ob : Obj} {od : Option Obj} {Ta id : String} {Q : Value → Shared → Prop} (hu : A.units < cLine) (XK : K.In s.heap)
    (ha : s.TypeIs u Ta) (h1 : Slot Ta "__eq__" id) (J : PySem.W.InstAt s.heap b ob C od) (hsub : PySem.W.mroIn K C (.type Ta) = some false) (hs : PySem.W.findIn K (.ref C) "__eq__" = some (some (.ref f))) (hf : PySem.W.isFn K (.ref f) = true)
    (hc1 : ∀ Q' : Value → Shared → Prop, Q' .notImplemented s → wpAny (model prog w) A (call (.builtin id) [u, .ref b]) Q' E s)
    (hc2 : wpAny (model prog w) A (call (.ref f) [.ref b, u]) (PySem.W.CmpBack Q) E s) : wpAny (model prog w) A (richCompare .Eq u (.ref b)) Q E s := by
  rcases hi : cmpInfo CmpOp.Eq with ⟨sym, g, r⟩
  have e1 : g = ("__eq__" : Str) := by have := congrArg (fun z => z.2.1) hi; exact this.symm
  have e2 : r = ("__eq__" : Str) := by have := congrArg (fun z => z.2.2) hi; exact this.symm
  subst e1 e2
  simp only [richCompare, hi, ha.oneThing_none]
  refine wpAny_holding ?_
  refine wpAny_bind (wpAny_cRoomFor hu ?_)
  refine wpAny_bind (wpAny_typeOf ha (wpAny_bind (J.type.here ?_)))
  rw [show (Value.type Ta != Value.ref C) = true from rfl]
  simp only [if_true]
  refine wpAny_bind ((PySem.W.looks_mroIn XK hsub).here ?_)
  simp only [Bool.false_eq_true, if_false, Bool.not_false, if_true]
  refine wpAny_bind (m := tryCompare u _ (.ref b)) (wpAny_tryCompare_declines ha h1 (hc1 _ ⟨rfl, ?_⟩))
  have one : wpAny (model prog w) A (tryCompare (.ref b) "__eq__" u) (fun r s' => ∃ v, r = some v ∧ Q v s') E s := by
    unfold tryCompare
    refine wpAny_bind (PySem.W.ifBound_K XK J hs hf (wpAny_mono hc2 (fun v s' hv => ?_) fun _ _ e => e))
    cases v <;> first | exact hv.elim | exact wpAny_pure ⟨_, rfl, hv⟩
  refine wpAny_bind (m := tryCompare (.ref b) _ u) (wpAny_mono one (fun r s' z => ?_) fun _ _ e => e)
  obtain ⟨v, rfl, hq⟩ := z
  exact wpAny_pure hq
/-- the built-in type of a plain thing -/
def plainTy (H : Hp) (K : PySem.W.Frag) : V → String → Prop
  | .non, T => T = "NoneType"
  | .bl _, T => T = "bool"
  | .int _, T => T = "int"
  | .str _, T => T = "str"
  | .ref p, T => (T = "list" ∧ ∃ xs, SqL K H p xs) ∨ (T = "tuple" ∧ ∃ xs, SqT K H p xs)
  | _, _ => False
def rEqR (K : PySem.W.Frag) (C : Addr) (sp : Sp) (E : XK) : R2 := fun x y H Q => ∃ b dy gs T, y = .ref b ∧ H b = some (.ins C dy gs) ∧ plainTy H K x T ∧ PySem.W.mroIn K C (.type T) = some false ∧ sp [y, x] H (fun v H' => ∃ b, v = .bl b ∧ Q (.bl b) H') E
theorem rc_right (F : FnOk X.prog X.w X.K X.mg X.base CX n f fd ps sp) (hs : PySem.W.findIn X.K (.ref C) "__eq__" = some (some (.ref f))) (hf : PySem.W.isFn X.K (.ref f) = true) (hb : Binds X.K fd ps []) (hx : Passes CX X E) : RcO X n (rEqR X.K C sp E) := by
  intro A pins s σ H x y u v Q sb I rx ry hq
  obtain ⟨b, dy, gs, T, rfl, hb', pt, hm, q⟩ := hq
  cases ry
  obtain ⟨mA, J0, _⟩ := ins_get I.hok hb'
  have hobj := J0.obj
  obtain ⟨od, J, _⟩ := J0.look
  have hsub : ∀ M : Model, PySem.W.Looks M s.heap (isSubtype (.ref C) (.type T)) false := fun M => PySem.W.looks_mroIn I.kIn hm
  have r2 : Vals [V.ref b, x] [Value.ref b, u] := .cons rfl (.cons rx .nil)
  have back : wpAny (model X.prog X.w) A (call (.ref f) [.ref b, u]) (PySem.W.CmpBack fun t s' => ∃ b H', t = .bool b ∧ L2.Inv X pins σ H' s' ∧ Q (.bl b) H') X.xe s := by
    refine wpAny_mono (call_sub F hb hx sb I r2 q) (fun r s' z => ?_) fun _ _ x => x
    obtain ⟨z, H', I', rz, k, rfl, q'⟩ := z
    cases (show r = Value.bool k from rz)
    exact ⟨k, H', rfl, I', q'⟩
  cases x with
  | non =>
    cases (show u = Value.none from rx)
    cases (show T = "NoneType" from pt)
    exact rc_refl sb.room.units0 I.kIn rfl PySem.F.slot_NoneType_eq J hm hs hf (fun Q' hq' => call_gives PySem.F.slot_NoneType_eq rfl PySem.F.entry_NoneType_eq (PySem.F.args_NoneType_eq_2 _ _) (SeqAt.NoneType___eq___none_ref_0 b) hq') back
  | bl k =>
    cases (show u = Value.bool k from rx)
    cases (show T = "bool" from pt)
    exact rc_refl sb.room.units0 I.kIn rfl PySem.F.slot_bool_eq J hm hs hf (fun Q' hq' => call_meets PySem.F.slot_bool_eq rfl PySem.F.entry_int_eq (PySem.F.args_int_eq_2 _ _) (bool_declines k b C _) ⟨hobj, hq'⟩) back
  | int i =>
    obtain ⟨t, rfl⟩ := (show ∃ t, u = Value.int i t from rx)
    cases (show T = "int" from pt)
    exact rc_refl sb.room.units0 I.kIn (typeIs_int s i t) PySem.F.slot_int_eq J hm hs hf (fun Q' hq' => call_meets PySem.F.slot_int_eq (typeIs_int s i t) PySem.F.entry_int_eq (PySem.F.args_int_eq_2 _ _) (int_declines i t b C _) ⟨hobj, hq'⟩) back
  | str z =>
    obtain ⟨t, rfl⟩ := (show ∃ t, u = Value.str z t from rx)
    cases (show T = "str" from pt)
    exact rc_refl sb.room.units0 I.kIn (typeIs_str s z t) PySem.F.slot_str_eq J hm hs hf (fun Q' hq' => call_meets PySem.F.slot_str_eq (typeIs_str s z t) PySem.F.entry_str_eq (PySem.F.args_str_eq_2 _ _) (str_declines z t b C _) ⟨hobj, hq'⟩) back
  | ref p =>
    cases (show u = Value.ref p from rx)
    rcases pt with ⟨rfl, xs, hp⟩ | ⟨rfl, xs, hp⟩
    · obtain ⟨its, r, pl, hz⟩ := I.list hp
      obtain ⟨⟨cls, dd, data, sl⟩, ho, hc, k, hd⟩ := pl.isList
      simp only at hc hd
      subst hc hd
      exact rc_refl sb.room.units0 I.kIn ⟨_, ho, rfl⟩ PySem.F.slot_list_eq J hm hs hf (fun Q' hq' => call_meets PySem.F.slot_list_eq ⟨_, ho, rfl⟩ PySem.F.entry_list_eq (PySem.F.args_list_eq_2 _ _) (list_declines p b C _ _ _ _ _) ⟨ho, hobj, hsub, hq'⟩) back
    · obtain ⟨its, r, pl, hz⟩ := I.tuple hp
      obtain ⟨⟨cls, dd, data, sl⟩, ho, hc, k, hd⟩ := pl
      simp only at hc hd
      subst hc hd
      exact rc_refl sb.room.units0 I.kIn ⟨_, ho, rfl⟩ PySem.F.slot_tuple_eq J hm hs hf (fun Q' hq' => call_meets PySem.F.slot_tuple_eq ⟨_, ho, rfl⟩ PySem.F.entry_tuple_eq (PySem.F.args_tuple_eq_2 _ _) (tuple_declines p b C _ _ _ _ _) ⟨ho, hobj, hsub, hq'⟩) back
  | _ => exact False.elim pt
end

/-! ### != by the object's own == -/
section
variable {prog : Program} {w : World} {M : Model} {A : Around} {E : Value → Shared → Prop} {s : Shared} {K : PySem.W.Frag} {x C f : Addr} {ox : Obj} {od : Option Obj}
theorem ifBound_B {name : Str} {id : String} {args : List Value} {Q : Option Value → Shared → Prop} (XK : K.In s.heap) (I : PySem.W.InstAt s.heap x ox C od) (hs : PySem.W.findIn K (.ref C) name = some (some (.builtin id)))
    (hb : ∀ self, bindSpecial (.builtin id) self = pure (.builtin id, [self])) (h : wpAny M A (call (.builtin id) (.ref x :: args)) (fun v => Q (some v)) E s) : wpAny M A (callSpecialIfBound? (.ref x) name args) Q E s := by
  simp only [callSpecialIfBound?, bindSpecialIfBound?]
  refine wpAny_holding (wpAny_bind (wpAny_bind (wpAny_bind (I.type.here ((PySem.W.looks_findIn XK hs).here ?_)))))
  refine wpAny_bind (wpAny_askSetting (wpAny_ite ?_))
  have fin : wpAny M A (call (.builtin id) ([.ref x] ++ args) >>= fun v => pure (some v)) Q E s := wpAny_bind (wpAny_mono h (fun v s' h' => wpAny_pure h') fun _ _ h' => h')
  split
  · exact wpAny_bind ((PySem.W.Looks.of_pure (hb _)).here (wpAny_pure (by exact fin)))
  · exact wpAny_tryCatch (wpAny_bind ((PySem.W.Looks.of_pure (hb _)).here (wpAny_pure (by exact fin))))
open Builtin in
theorem call_objNe {b : Value} {Q : Value → Shared → Prop} (hu : A.in1.units < cLine) (XK : K.In s.heap) (I : PySem.W.InstAt s.heap x ox C od) (hm : PySem.W.mroIn K C (.type "object") = some true) (hs : PySem.W.findIn K (.ref C) "__eq__" = some (some (.ref f))) (hf : PySem.W.isFn K (.ref f) = true)
    (h : wpAny (model prog w) A.in1 (call (.ref f) [.ref x, b]) (fun v s' => ∃ k, v = .bool k ∧ Q (.bool (!k)) s') E s) : wpAny (model prog w) A (call (.builtin "object.__ne__") [.ref x, b]) Q E s := by
  refine wpAny_call (codeAny_call_builtin PySem.F.cmp_object.ne.plain PySem.F.cmpEntry_ne (PySem.W.check_slot (i := "object.__ne__") (owner := "object") (n := "__ne__") (by decide +kernel) (by decide +kernel) (I.type.andThen (PySem.W.looks_mroIn XK hm)) (PySem.F.cmpArgs_ne _ _) ?_))
  unfold Builtin.«object.__ne__»
  repeat (first
    | with_reducible refine wpAny_cRoomFor hu ?_
    | (refine wpAny_bind (m := callSpecialIfBound? (.ref x) (Str.ofString "__eq__") [b])
        (PySem.W.ifBound_K XK I hs hf (wpAny_mono h (fun r s' hr => by
          obtain ⟨k, rfl, hq⟩ := hr
          repeat (first | exact hq | exact wpAny_pure hq | exact wpAny_truthy_bool hq | (refine wpAny_bind (m := truthy (.bool _)) (wpAny_truthy_bool ?_)) | wp_step)) fun _ _ e => e)))
    | wp_step)
theorem ne_K {L : Addr} {h₀ : Heap} {m : Str → Option Value} {b tb : Value} {Q : Value → Shared → Prop} (hu : A.in1.units < cLine) (hu0 : A.units < cLine) (XK : K.In s.heap) (I : PySem.W.InstAt s.heap x ox C od) (hb : PySem.W.Looks (model prog w) s.heap (typeOf b) tb) (hn : PySem.W.notFirst K C tb = true)
    (hne : PySem.W.findIn K (.ref C) "__ne__" = some (some (.builtin "object.__ne__"))) (hm : PySem.W.mroIn K C (.type "object") = some true) (hs : PySem.W.findIn K (.ref C) "__eq__" = some (some (.ref f))) (hf : PySem.W.isFn K (.ref f) = true)
    (h : wpAny (model prog w) A.in1 (call (.ref f) [.ref x, b]) (fun v s' => ∃ k, v = .bool k ∧ Q (.bool (!k)) s') E s) : wpAny (model prog w) A (richCompare .NotEq (.ref x) b) Q E s := by
  have one : wpAny (model prog w) A (tryCompare (.ref x) "__ne__" b) (fun r s' => ∃ v, r = some v ∧ Q v s') E s := by
    unfold tryCompare
    refine wpAny_bind (ifBound_B XK I hne PySem.F.cmp_object.ne.bind (call_objNe hu XK I hm hs hf (wpAny_mono h (fun v s' hv => ?_) fun _ _ e => e)))
    obtain ⟨k, rfl, hq⟩ := hv
    exact ⟨k, rfl, wpAny_pure ⟨_, rfl, hq⟩⟩
  unfold richCompare
  simp only [oneThing_ref]
  refine wpAny_holding (wpAny_bind (wpAny_cRoomFor hu0 ?_))
  refine wpAny_bind (I.type.here (wpAny_bind (hb.here ?_)))
  split
  · rename_i q
    have e : PySem.W.subIn K tb (.ref C) = some false := by
      rcases Bool.or_eq_true_iff.mp hn with e | e
      · rw [beq_iff_eq.mp e] at q; simp at q
      · exact beq_iff_eq.mp e
    refine wpAny_bind ((PySem.W.looks_subIn XK e).here ?_)
    simp only [Bool.false_eq_true, if_false]
    refine wpAny_bind (wpAny_mono one (fun r s' z => ?_) fun _ _ e => e)
    obtain ⟨v, rfl, hq⟩ := z
    exact wpAny_pure hq
  · refine wpAny_bind (wpAny_pure ?_)
    simp only [Bool.false_eq_true, if_false]
    refine wpAny_bind (wpAny_mono one (fun r s' z => ?_) fun _ _ e => e)
    obtain ⟨v, rfl, hq⟩ := z
    exact wpAny_pure hq
end
section
variable {X : Cx} {CX : CXT} {n : Nat} {f C : Addr} {fd : FuncData} {ps : List Str} {sp : Sp} {E : XK}
def rNeO (K : PySem.W.Frag) (C : Addr) (sp : Sp) (E : XK) : R2 := fun x y H Q => ∃ a dx fs t, x = .ref a ∧ H a = some (.ins C dx fs) ∧ TyX K H y t ∧ PySem.W.notFirst K C t = true ∧ sp [x, y] H (fun v H' => ∃ b, v = .bl b ∧ Q (.bl (!b)) H') E
theorem op_neO (F : FnOk X.prog X.w X.K X.mg X.base CX n f fd ps sp) (hs : PySem.W.findIn X.K (.ref C) "__eq__" = some (some (.ref f))) (hf : PySem.W.isFn X.K (.ref f) = true) (hb : Binds X.K fd ps []) (hx : Passes CX X E)
    (hne : PySem.W.findIn X.K (.ref C) "__ne__" = some (some (.builtin "object.__ne__"))) (hm : PySem.W.mroIn X.K C (.type "object") = some true) (hr : Room (n + 1) X.A) : OpR X (compareOp .NotEq) (rNeO X.K C sp E) := by
  intro pins s σ H x y u v Q I rx ry hq
  obtain ⟨a, dx, fs, t, rfl, ha, ty, hn, q⟩ := hq
  cases rx
  obtain ⟨mA, J, _⟩ := ins_get I.hok ha
  obtain ⟨od, J, _⟩ := J.look
  obtain ⟨P, Z, p, _⟩ := kit_of I ry ty
  have sb : Sub X (n + 1) X.A := ⟨hr, rfl⟩
  show wpAny (model X.prog X.w) X.A (richCompare .NotEq (.ref a) v) (EP X pins σ Q) X.xe s
  have r2 : Vals [V.ref a, y] [Value.ref a, v] := .cons rfl (.cons ry .nil)
  refine ne_K (L := 0) (h₀ := s.heap) (m := fun _ => none) sb.in1.room.units0 sb.room.units0 I.kIn J (Z.ty _ _ I.kIn p) hn hne hm hs hf ?_
  refine wpAny_mono (call_sub F hb hx sb.in1 I r2 q) (fun r s' z => ?_) fun _ _ x => x
  obtain ⟨z, H', I', rz, b, rfl, q'⟩ := z
  cases (show r = Value.bool b from rz)
  exact ⟨b, rfl, .bl (!b), H', I', rfl, q'⟩
end

/-! ### x in [z], [x] == [y], (c, x) == (c, y), by ==  -/
section
open AutoSeq1 (wpAny_loadPart')
open MeetsSeq MeetsSeq2 MeetsSeq3 SeqRoads2 SeqAt
variable {prog : Program} {w : World} {A : Around} {R : Result → Shared → Prop}
/-- the list at l holds one thing -/
def One (s : Shared) (l : Addr) (z : Value) : Prop := ∃ (items : Array Value) (n : Nat), s.heap.get? l = some { cls := .type "list", data := .seq items n } ∧ items[(0 : Int).toNat]? = some z ∧ items[((0 : Int) + 1).toNat]? = none ∧ items.size = 1
theorem One.of {s : Shared} {l : Addr} {z : Value} {n : Nat} (h : s.heap.get? l = some { cls := .type "list", data := .seq #[z] n }) : One s l z := ⟨#[z], n, h, rfl, rfl, rfl⟩
theorem contains_loop1 (l : Addr) (x z : Value) {s : Shared} (h0 : One s l z) (h : R (.ok (.ret (.bool false))) s) :
    wpAny (model prog w) A.in1 (Builtin.«list.__contains__.loop» ⟨[.ref l, x, rawInt ((0 : Int) + 1)], []⟩) (GQ.FinOf prog w A R) (fun e s' => R (.error e) s') s := by
  obtain ⟨items, n, hl, e0, e1, _⟩ := h0
  obtain ⟨hp, g, d, tk, os⟩ := s
  wp_walk using wpAny_loadPart' hl
  rw [e1]
  wp_walk
  exact h
theorem contains1 (l : Addr) (x z : Value) {s : Shared} (h0 : One s l z)
    (he : wpAny (model prog w) A.in1 (eqBool z x) (fun b s' => (∃ z', One s' l z') ∧ R (.ok (.ret (.bool b))) s') (fun e s' => R (.error e) s') s) :
    wpAny (model prog w) A.in1 (Builtin.«list.__contains__» ⟨[.ref l, x], []⟩) (GQ.FinOf prog w A R) (fun e s' => R (.error e) s') s := by
  have step : wpAny (model prog w) A.in1 (Builtin.«list.__contains__.loop» ⟨[.ref l, x, rawInt (0 : Int)], []⟩) (GQ.FinOf prog w A R) (fun e s' => R (.error e) s') s := by
    obtain ⟨items, n, hl, e0, e1, _⟩ := h0
    obtain ⟨hp, g, d, tk, os⟩ := s
    wp_walk using wpAny_loadPart' hl
    rw [e0]
    refine wpAny_bind (wpAny_mono he (fun b s2 h2 => ?_) fun _ _ x => x)
    obtain ⟨⟨z', p2⟩, q2⟩ := h2
    cases b with
    | true =>
      wp_walk
      exact q2
    | false =>
      have nx := contains_loop1 (A := A) (w := w) (prog := prog) (R := R) l x z' p2 q2
      obtain ⟨hp2, g2, d2, tk2, os2⟩ := s2
      wp_walk
      exact ⟨plainId_quiet plain_contains_loop _, codeAny_builtin entry_contains_loop (by
        rw [Around.under_plainId plain_contains_loop _]
        exact nx)⟩
  obtain ⟨items, n, hl, e0, e1, _⟩ := h0
  obtain ⟨hp, g, d, tk, os⟩ := s
  wp_walk using wpAny_loadPart' hl
  exact ⟨plainId_quiet plain_contains_loop _, codeAny_builtin entry_contains_loop (by
    rw [Around.under_plainId plain_contains_loop _]
    exact step)⟩
theorem eq_list1_loop (l b : Addr) (x y : Value) {s : Shared} (h0 : One s l x ∧ One s b y) (h : R (.ok (.ret (.bool true))) s) :
    wpAny (model prog w) A.in1 (Builtin.«list.__eq__.loop» ⟨[.ref l, .ref b, rawInt ((0 : Int) + 1), rawInt 2], []⟩) (GQ.FinOf prog w A R) (fun e s' => R (.error e) s') s := by
  obtain ⟨⟨items, n, hl, e0, e1, z1⟩, items2, n2, hb, f0, f1, z2⟩ := h0
  obtain ⟨hp, g, d, tk, os⟩ := s
  wp_walk using wpAny_loadPart' hl, wpAny_loadPart' hb
  rw [e1, f1]
  wp_walk using wpAny_loadPart' hl, wpAny_loadPart' hb
  show R (.ok (.ret (.bool (items.size == items2.size)))) _
  rw [z1, z2]
  exact h
theorem eq_list1 (l b : Addr) (x y : Value) {s : Shared} (h0 : One s l x ∧ One s b y)
    (he : wpAny (model prog w) A.in1 (eqBool x y) (fun k s' => (∃ x' y', One s' l x' ∧ One s' b y') ∧ R (.ok (.ret (.bool k))) s') (fun e s' => R (.error e) s') s) :
    wpAny (model prog w) A.in1 (Builtin.«list.__eq__» ⟨[.ref l, .ref b], []⟩) (GQ.FinOf prog w A R) (fun e s' => R (.error e) s') s := by
  have step : wpAny (model prog w) A.in1 (Builtin.«list.__eq__.loop» ⟨[.ref l, .ref b, rawInt (0 : Int), rawInt 2], []⟩) (GQ.FinOf prog w A R) (fun e s' => R (.error e) s') s := by
    obtain ⟨⟨items, n, hl, e0, e1, z1⟩, items2, n2, hb, f0, f1, z2⟩ := h0
    obtain ⟨hp, g, d, tk, os⟩ := s
    wp_walk using wpAny_loadPart' hl, wpAny_loadPart' hb
    rw [e0, f0]
    refine wpAny_bind (wpAny_mono he (fun k s2 h2 => ?_) fun _ _ x => x)
    obtain ⟨⟨x', y', p2⟩, q2⟩ := h2
    cases k with
    | true =>
      have nx := eq_list1_loop (A := A) (w := w) (prog := prog) (R := R) l b x' y' p2 q2
      obtain ⟨hp2, g2, d2, tk2, os2⟩ := s2
      wp_walk
      exact ⟨plainId_quiet plain_eq_loop _, codeAny_builtin entry_eq_loop (by
        rw [Around.under_plainId plain_eq_loop _]
        exact nx)⟩
    | false =>
      obtain ⟨⟨items, n, hl, e0, e1, z1⟩, items2, n2, hb, f0, f1, z2⟩ := p2
      obtain ⟨hp2, g2, d2, tk2, os2⟩ := s2
      wp_walk using wpAny_loadPart' hl, wpAny_loadPart' hb
      rw [e0, f0]
      wp_walk
      exact q2
  obtain ⟨⟨items, n, hl, e0, e1, z1⟩, items2, n2, hb, f0, f1, z2⟩ := h0
  obtain ⟨hp, g, d, tk, os⟩ := s
  have f3 := AutoSeq1.sub_list_list
  have hne : ¬ (items.size != items2.size) = true := by simp [z1, z2]
  wp_walk using wpAny_loadPart' hl, wpAny_loadPart' hb
  exact ⟨plainId_quiet plain_eq_loop _, codeAny_builtin entry_eq_loop (by
    rw [Around.under_plainId plain_eq_loop _]
    exact step)⟩
/-- tuples of any length: each two of items compared in turn, to the first that differ; e tells how each comes out -/
theorem tuple_eqB (l b : Addr) (items items2 : Array Value) (n n2 : Nat) (dd dd2 : Option Addr) (sl sl2 : Array (Option Value)) (hsz : items.size = items2.size) (I : Nat → Shared → Prop) (F : Shared → Prop)
    (turn : ∀ i (h1 : i < items.size) (h2 : i < items2.size) s, I i s → wpAny (model prog w) A.in1 (eqBool items[i] items2[i]) (fun r s' => if r = true then I (i + 1) s' else F s') (fun e s' => R (.error e) s') s)
    (fin : ∀ s, I items.size s → R (.ok (.ret (.bool true))) s) (bad : ∀ s, F s → R (.ok (.ret (.bool false))) s) {s : Shared} (hl1 : s.heap.get? l = some { cls := .type "tuple", dict := dd, data := .seq items n, slots := sl }) (hb1 : s.heap.get? b = some { cls := .type "tuple", dict := dd2, data := .seq items2 n2, slots := sl2 }) (h : I 0 s) :
    wpAny (model prog w) A.in1 (Builtin.«tuple.__eq__» ⟨[.ref l, .ref b], []⟩) (GQ.FinOf prog w A R) (fun e s' => R (.error e) s') s := by
  have f2 := AutoSeq1.sub_tuple_tuple
  have hZ : (items.toList.zip items2.toList).length = items.size := by simp [hsz]
  have h0 := h
  obtain ⟨hp, g, d, tk, os⟩ := s
  wp_walk using wpAny_loadPart' hl1, wpAny_loadPart' hb1, wpAny_forIn_list _ (fun rest b s' => b.1 = none ∧ ∃ i, rest = (items.toList.zip items2.toList).drop i ∧ i ≤ items.size ∧ I i s') _
  case turn =>
    rintro ⟨y, x⟩ rest b s' ⟨hb', i, hz, hi, hI⟩
    have hlt : i < (items.toList.zip items2.toList).length := by
      rcases Nat.lt_or_ge i (items.toList.zip items2.toList).length with h' | h'
      · exact h'
      · rw [List.drop_of_length_le h'] at hz; cases hz
    have h1 : i < items.size := hZ ▸ hlt
    have h2 : i < items2.size := hsz ▸ h1
    rw [List.drop_eq_getElem_cons hlt] at hz
    injection hz with hyx hrest
    have hy : y = items[i] := by have := congrArg Prod.fst hyx; simpa using this
    have hx : x = items2[i] := by have := congrArg Prod.snd hyx; simpa using this
    subst hy hx
    refine wpAny_bind (wpAny_mono (turn i h1 h2 s' hI) (fun r s2 q2 => ?_) fun _ _ x => x)
    cases r with
    | true =>
      wp_walk
      exact ⟨rfl, i + 1, hrest, h1, q2⟩
    | false =>
      wp_walk
      exact bad _ q2
  case fin =>
    rintro ⟨b1, b2⟩ s' ⟨hb', i, hz, hi, hI⟩
    simp only at hb'
    subst hb'
    have hge : items.size ≤ i := by
      rcases Nat.lt_or_ge i (items.toList.zip items2.toList).length with h' | h'
      · rw [List.drop_eq_getElem_cons h'] at hz; cases hz
      · exact hZ ▸ h'
    have hi' : i = items.size := by omega
    have hR : R (.ok (.ret (.bool true))) s' := fin s' (hi' ▸ hI)
    wp_walk
    simpa [Builtin.Tuple.tupleCompareSizes, hsz] using hR
  case h =>
    exact ⟨rfl, 0, rfl, Nat.zero_le _, h0⟩
end
section
variable {prog : Program} {w : World} {A : Around} {R : Result → Shared → Prop}
theorem tuple_eq2 (l b : Addr) (c1 c2 x y : Value) (n n2 : Nat) (dd dd2 : Option Addr) (sl sl2 : Array (Option Value)) {s : Shared} (Tr Fa : Shared → Prop)
    (t0 : wpAny (model prog w) A.in1 (eqBool c1 c2) (fun r s' => r = true ∧ s' = s) (fun e s' => R (.error e) s') s)
    (t1 : wpAny (model prog w) A.in1 (eqBool x y) (fun r s' => if r = true then Tr s' else Fa s') (fun e s' => R (.error e) s') s)
    (fin : ∀ s, Tr s → R (.ok (.ret (.bool true))) s) (bad : ∀ s, Fa s → R (.ok (.ret (.bool false))) s) (hl1 : s.heap.get? l = some { cls := .type "tuple", dict := dd, data := .seq #[c1, x] n, slots := sl }) (hb1 : s.heap.get? b = some { cls := .type "tuple", dict := dd2, data := .seq #[c2, y] n2, slots := sl2 }) :
    wpAny (model prog w) A.in1 (Builtin.«tuple.__eq__» ⟨[.ref l, .ref b], []⟩) (GQ.FinOf prog w A R) (fun e s' => R (.error e) s') s := by
  refine tuple_eqB l b #[c1, x] #[c2, y] n n2 dd dd2 sl sl2 rfl (fun i s' => (i = 0 ∧ s' = s) ∨ (i = 1 ∧ s' = s) ∨ (i = 2 ∧ Tr s')) Fa (fun i h1 h2 s' hI => ?_) (fun s' hI => ?_) bad hl1 hb1 (.inl ⟨rfl, rfl⟩)
  · rcases hI with ⟨rfl, rfl⟩ | ⟨rfl, rfl⟩ | ⟨rfl, _⟩
    · show wpAny _ _ (eqBool c1 c2) _ _ _
      refine wpAny_mono t0 (fun r s2 z => ?_) fun _ _ x => x
      obtain ⟨rfl, rfl⟩ := z
      rw [if_pos rfl]
      exact .inr (.inl ⟨rfl, rfl⟩)
    · show wpAny _ _ (eqBool x y) _ _ _
      refine wpAny_mono t1 (fun r s2 z => ?_) fun _ _ x => x
      cases r with
      | true =>
        rw [if_pos rfl] at z ⊢
        exact .inr (.inr ⟨rfl, z⟩)
      | false =>
        rw [if_neg Bool.false_ne_true] at z ⊢
        exact z
    · exact absurd h1 (by simp)
  · rcases hI with ⟨e, _⟩ | ⟨e, _⟩ | ⟨_, h⟩
    · exact absurd e (by simp)
    · exact absurd e (by simp)
    · exact fin s' h
end
/-! ### the operators -/
section
open SeqRoads2
variable {X : Cx} {n : Nat} {r : R2}
theorem one_of {pins : List (Addr × Obj)} {σ : L2.St} {H : Hp} {s : Shared} {a : Addr} {x : V} (I : L2.Inv X pins σ H s) (h : H a = some (.lst [x])) : ∃ u, RelV x u ∧ One s a u := by
  obtain ⟨z, its, k, rv, e⟩ := I.hok a _ h
  cases rv with
  | cons r1 r2 =>
    cases r2
    exact ⟨_, r1, One.of e⟩
theorem one_eq {s : Shared} {a : Addr} {u v : Value} (h1 : One s a u) (h2 : One s a v) : u = v := by
  obtain ⟨i1, n1, g1, e1, _, _⟩ := h1
  obtain ⟨i2, n2, g2, e2, _, _⟩ := h2
  rw [g1] at g2
  cases g2
  rw [e1] at e2
  exact Option.some.inj e2
/-- x in [z] -/
def rIn1 (r : R2) : R2 := fun x y H Q => ∃ p z, y = .ref p ∧ H p = some (.lst [z]) ∧ r z x H (fun t H' => Ext H H' ∧ Q t H')
theorem op_in1 (h : EqO X n r) (hr : Room (n + 1) X.A) : OpR X (compareOp .In) (rIn1 r) := by
  intro pins s σ H x y v u Q I rx ry hq
  obtain ⟨p, z, rfl, hp, q⟩ := hq
  cases ry
  have sb : Sub X (n + 1) X.A := ⟨hr, rfl⟩
  obtain ⟨zu, rz, o1⟩ := one_of I hp
  obtain ⟨items, k, hl, _⟩ := id o1
  show wpAny _ X.A (do return .bool (← contains (.ref p) v)) (EP X pins σ Q) X.xe s
  refine wpAny_bind (wpAny_contains_slot ⟨_, hl, rfl⟩ PySem.F.slot_list_contains (wpAny_mono (GQ.call_here (A := X.A) (E := X.xe) (Q := fun t s' => ∃ b H', t = .bool b ∧ L2.Inv X pins σ H' s' ∧ Q (.bl b) H') PySem.F.slot_list_contains ⟨_, hl, rfl⟩ PySem.F.entry_list_contains (PySem.F.args_list_contains_2 _ _) ?_) (fun t s' hv => ?_) fun _ _ e => e))
  · refine contains1 p v zu o1 ?_
    refine wpAny_mono (h X.A.in1 pins s σ H z x zu v _ sb.in1 I rz rx q) (fun b s' hb => ?_) fun _ _ x => x
    obtain ⟨H', I', ex, q'⟩ := hb
    obtain ⟨zu', rz', o2⟩ := one_of I' (ex _ _ hp)
    exact ⟨⟨zu', o2⟩, b, H', rfl, I', q'⟩
  · obtain ⟨b, H', rfl, I', q'⟩ := hv
    exact wpAny_truthy_bool (wpAny_pure ⟨.bl b, H', I', rfl, q'⟩)
/-- [x] == [y] -/
def rEqL1 (r : R2) : R2 := fun u v H Q => ∃ a b x y, u = .ref a ∧ v = .ref b ∧ H a = some (.lst [x]) ∧ H b = some (.lst [y]) ∧ r x y H (fun t H' => Ext H H' ∧ Q t H')
theorem rc_list1 (h : EqO X n r) : RcO X (n + 1) (rEqL1 r) := by
  intro A pins s σ H x y u v Q sb I rx ry hq
  obtain ⟨a, b, x1, y1, rfl, rfl, ha, hb, q⟩ := hq
  cases rx
  cases ry
  obtain ⟨xu, rxu, o1⟩ := one_of I ha
  obtain ⟨yu, ryu, o2⟩ := one_of I hb
  obtain ⟨items, k, hl, _⟩ := id o1
  obtain ⟨items2, k2, hl2, _⟩ := id o2
  refine wpAny_richCompare_same_room (op := .Eq) ⟨_, hl, rfl⟩ ⟨_, hl2, rfl⟩ PySem.F.slot_list_eq (GQ.call_here PySem.F.slot_list_eq ⟨_, hl, rfl⟩ PySem.F.entry_list_eq (PySem.F.args_list_eq_2 _ _) ?_) sb.room.units0
  refine eq_list1 (R := wants (fun v s' => v ≠ .notImplemented ∧ ∃ b H', v = .bool b ∧ L2.Inv X pins σ H' s' ∧ Q (.bl b) H') X.xe) a b xu yu ⟨o1, o2⟩ ?_
  refine wpAny_mono (h A.in1 pins s σ H x1 y1 xu yu _ sb.in1 I rxu ryu q) (fun k s' hk => ?_) fun _ _ x => x
  obtain ⟨H', I', ex, q'⟩ := hk
  obtain ⟨xu', _, p1⟩ := one_of I' (ex _ _ ha)
  obtain ⟨yu', _, p2⟩ := one_of I' (ex _ _ hb)
  exact ⟨⟨xu', yu', p1, p2⟩, (fun z => nomatch z), k, H', rfl, I', q'⟩
/-- (c, x) == (d, y), c and d ints that are the same -/
def rEqT2 (K : PySem.W.Frag) (r : R2) : R2 := fun u v H Q => ∃ a b c x y, u = .ref a ∧ v = .ref b ∧ SqT K H a [.int c, x] ∧ SqT K H b [.int c, y] ∧ r x y H Q
theorem rc_tup2 (h : EqO X n r) : RcO X (n + 1) (rEqT2 X.K r) := by
  intro A pins s σ H x y u v Q sb I rx ry hq
  obtain ⟨a, b, c, x1, y1, rfl, rfl, ha, hb, q⟩ := hq
  cases rx
  cases ry
  obtain ⟨its, rv, pl, _⟩ := I.tuple ha
  obtain ⟨its2, rv2, pl2, _⟩ := I.tuple hb
  obtain ⟨⟨cls, dd, data, sl⟩, ho, hc, k, hd⟩ := id pl
  obtain ⟨⟨cls2, dd2, data2, sl2⟩, ho2, hc2, k2, hd2⟩ := id pl2
  simp only at hc hd hc2 hd2
  subst hc hd hc2 hd2
  cases rv with
  | cons r1 rv =>
  cases rv with
  | cons r2 rv =>
  cases rv
  cases rv2 with
  | cons q1 rv2 =>
  cases rv2 with
  | cons q2 rv2 =>
  cases rv2
  obtain ⟨t1, rfl⟩ := r1
  obtain ⟨t2, rfl⟩ := q1
  rename_i xu yu
  refine wpAny_richCompare_same_room (op := .Eq) ⟨_, ho, rfl⟩ ⟨_, ho2, rfl⟩ PySem.F.slot_tuple_eq (GQ.call_here PySem.F.slot_tuple_eq ⟨_, ho, rfl⟩ PySem.F.entry_tuple_eq (PySem.F.args_tuple_eq_2 _ _) ?_) sb.room.units0
  refine tuple_eq2 (R := wants (fun v s' => v ≠ .notImplemented ∧ ∃ b H', v = .bool b ∧ L2.Inv X pins σ H' s' ∧ Q (.bl b) H') X.xe) a b (.int c t1) (.int c t2) xu yu k k2 dd dd2 sl sl2
    (fun s' => ∃ H', L2.Inv X pins σ H' s' ∧ Q (.bl true) H') (fun s' => ∃ H', L2.Inv X pins σ H' s' ∧ Q (.bl false) H') ?_ ?_ ?_ ?_ ho ho2
  · exact (SeqAt.EqAt.int_int c t1 c t2) X.prog X.w _ _ ⟨beq_self_eq_true c, rfl⟩
  · refine wpAny_mono (h A.in1 pins s σ H x1 y1 xu yu _ sb.in1 I r2 q2 q) (fun k s2 hk => ?_) fun _ _ x => x
    obtain ⟨H', I', q'⟩ := hk
    cases k with
    | true => exact ⟨H', I', q'⟩
    | false => exact ⟨H', I', q'⟩
  · rintro s' ⟨H', I', q'⟩
    exact ⟨(fun z => nomatch z), true, H', rfl, I', q'⟩
  · rintro s' ⟨H', I', q'⟩
    exact ⟨(fun z => nomatch z), false, H', rfl, I', q'⟩
end

/-! ### str(x), repr(x), f"{x}" of an instance -/
section
variable {X : Cx} {CX : CXT} {n : Nat} {f C : Addr} {fd : FuncData} {ps : List Str} {sp : Sp} {E : XK}
def rTextO (C : Addr) (sp : Sp) (E : XK) : List V → Hp → VK → Prop := fun xs H Q => ∃ a dx fs, xs = [.ref a] ∧ H a = some (.ins C dx fs) ∧ sp xs H (fun v H' => ∃ z, v = .str z ∧ Q (.str z) H') E
theorem text_back {pins : List (Addr × Obj)} {σ : L2.St} {Q : VK} {r : Value} {s' : Shared} (z : EP X pins σ (fun v H' => ∃ z, v = .str z ∧ Q (.str z) H') r s') : PySem.W.StrBack (EP X pins σ Q) r s' := by
  obtain ⟨y, H', I', ry, z, rfl, q'⟩ := z
  obtain ⟨t, rfl⟩ := (show ∃ t, r = Value.str z t from ry)
  exact ⟨.str z, H', I', ⟨t, rfl⟩, q'⟩
theorem call_strO (F : FnOk X.prog X.w X.K X.mg X.base CX n f fd ps sp) (hs : PySem.W.findIn X.K (.ref C) "__str__" = some (some (.ref f))) (hf : PySem.W.isFn X.K (.ref f) = true) (hb : Binds X.K fd ps []) (hx : Passes CX X E) (hr : Room (n + 2) X.A) :
    CallR X (.type "str") (rTextO C sp E) := by
  intro pins s σ H xs us Q I r h
  obtain ⟨a, dx, fs, rfl, ha, q⟩ := h
  have r2 : Vals [V.ref a] [Value.ref a] := .cons rfl .nil
  rw [Vals.ref1 r]
  obtain ⟨mA, J, _⟩ := ins_get I.hok ha
  obtain ⟨od, J, _⟩ := J.look
  have sb : Sub X (n + 2) X.A := ⟨hr, rfl⟩
  exact PySem.W.kso_call sb.in1.in1.room.units0 I.kIn J hs hf (wpAny_mono (call_sub F hb hx sb.in1.in1 I r2 q) (fun r s' z => text_back z) fun _ _ x => x)
theorem call_reprO (F : FnOk X.prog X.w X.K X.mg X.base CX n f fd ps sp) (hs : PySem.W.findIn X.K (.ref C) "__repr__" = some (some (.ref f))) (hf : PySem.W.isFn X.K (.ref f) = true) (hb : Binds X.K fd ps []) (hx : Passes CX X E) (hr : Room (n + 1) X.A) :
    CallR X (.builtin "repr") (rTextO C sp E) := by
  intro pins s σ H xs us Q I r h
  obtain ⟨a, dx, fs, rfl, ha, q⟩ := h
  have r2 : Vals [V.ref a] [Value.ref a] := .cons rfl .nil
  rw [Vals.ref1 r]
  obtain ⟨mA, J, _⟩ := ins_get I.hok ha
  obtain ⟨od, J, _⟩ := J.look
  obtain ⟨m, hF⟩ := I.fr
  have sb : Sub X (n + 1) X.A := ⟨hr, rfl⟩
  exact PySem.W.repr_K sb.in1.room.units0 hF I.ok.mod.kin J hs hf (wpAny_mono (call_sub F hb hx sb.in1 I r2 q) (fun r s' z => text_back z) fun _ _ x => x)
def tFmtO (C : Addr) (sp : Sp) (E : XK) (te : TE) : TE := fun σ H Q => te σ H fun x H1 => rTextO C sp E [x] H1 Q
theorem pe_fmtO {e : Expr} {te : TE} {pos : Pos} (F : FnOk X.prog X.w X.K X.mg X.base CX n f fd ps sp) (hs : PySem.W.findIn X.K (.ref C) "__str__" = some (some (.ref f))) (hf : PySem.W.isFn X.K (.ref f) = true) (hb : Binds X.K fd ps []) (hx : Passes CX X E)
    (hfm : PySem.W.findIn X.K (.ref C) "__format__" = some (some (.builtin "object.__format__"))) (hm : PySem.W.mroIn X.K C (.type "object") = some true) (hr : Room (n + 1) X.A) (he : PE X e te) : PE X (.FormattedValue e (-1) none pos) (tFmtO C sp E te) := by
  refine ⟨fun pins s σ H Q I h => ?_⟩
  refine wpAny_FormattedValue_plain (thn (he.run pins s σ H _ I h) fun v s1 hv => ?_)
  obtain ⟨x, H1, I1, r1, a, dx, fs, e1, ha, q⟩ := hv
  cases e1
  cases r1
  have r2 : Vals [V.ref a] [Value.ref a] := .cons rfl .nil
  have I2 := I1.tok (s1.toks + 1)
  obtain ⟨mA, J, _⟩ := ins_get I1.hok ha
  obtain ⟨od, J, _⟩ := J.look
  have sb : Sub X (n + 1) X.A := ⟨hr, rfl⟩
  exact PySem.W.kfo_fieldS sb.in1.room.units0 I1.kIn J hfm hm hs hf (wpAny_mono (call_sub F hb hx sb.in1 I2 r2 q) (fun r s' z => text_back z) fun _ _ x => x)
end
end UO
namespace UO
open PySem L2
/-! ### what the top leaves of a class whose instances are compared -/
def sixT : List String := ["NoneType", "bool", "int", "str", "list", "tuple"]
structure InsX (K : PySem.W.Frag) (C : Addr) : Prop where
  cla : PySem.W.findIn K (.ref C) "__class__" = some (some (.builtin "object.__class__"))
  spe : PySem.W.specialIn K (.builtin "object.__class__") "__get__" = some (some (.builtin "getset_descriptor.__get__"))
  tak : PySem.W.takesIn K (.builtin "object.__class__") = some true
  mro : PySem.W.mroIn K C (.type "object") = some true
  ne : PySem.W.findIn K (.ref C) "__ne__" = some (some (.builtin "object.__ne__"))
  fmt : PySem.W.findIn K (.ref C) "__format__" = some (some (.builtin "object.__format__"))
  kit : ∀ T ∈ sixT, PySem.W.kitOne K (.type T) (.ref C) = some false
  sub : ∀ T ∈ sixT, PySem.W.mroIn K C (.type T) = some false
  fst : ∀ T ∈ sixT, PySem.W.subIn K (.type T) (.ref C) = some false
def insB (x : Str) (K : PySem.W.Frag) : Bool :=
  decide (PySem.W.findIn K (.ref (He.ga K x)) "__class__" = some (some (.builtin "object.__class__"))) && (decide (PySem.W.specialIn K (.builtin "object.__class__") "__get__" = some (some (.builtin "getset_descriptor.__get__"))) &&
  (decide (PySem.W.takesIn K (.builtin "object.__class__") = some true) && (decide (PySem.W.mroIn K (He.ga K x) (.type "object") = some true) && (decide (PySem.W.findIn K (.ref (He.ga K x)) "__ne__" = some (some (.builtin "object.__ne__"))) &&
  (decide (PySem.W.findIn K (.ref (He.ga K x)) "__format__" = some (some (.builtin "object.__format__"))) && (sixT.all (fun T => decide (PySem.W.kitOne K (.type T) (.ref (He.ga K x)) = some false)) &&
  (sixT.all (fun T => decide (PySem.W.mroIn K (He.ga K x) (.type T) = some false)) && sixT.all (fun T => decide (PySem.W.subIn K (.type T) (.ref (He.ga K x)) = some false)))))))))
theorem insB_ok {x : Str} {K : PySem.W.Frag} (h : insB x K = true) : InsX K (He.ga K x) := by
  obtain ⟨h1, h⟩ := He.ba h
  obtain ⟨h2, h⟩ := He.ba h
  obtain ⟨h3, h⟩ := He.ba h
  obtain ⟨h4, h⟩ := He.ba h
  obtain ⟨h5, h⟩ := He.ba h
  obtain ⟨h6, h⟩ := He.ba h
  obtain ⟨h7, h⟩ := He.ba h
  obtain ⟨h8, h9⟩ := He.ba h
  exact ⟨of_decide_eq_true h1, of_decide_eq_true h2, of_decide_eq_true h3, of_decide_eq_true h4, of_decide_eq_true h5, of_decide_eq_true h6, fun T hT => of_decide_eq_true (List.all_eq_true.mp h7 T hT),
    fun T hT => of_decide_eq_true (List.all_eq_true.mp h8 T hT), fun T hT => of_decide_eq_true (List.all_eq_true.mp h9 T hT)⟩
theorem InsX.ty {K : PySem.W.Frag} {C : Addr} (ix : InsX K C) (cl : Cls K C) {H : Hp} {a dx : Addr} {fs : List (Str × V)} (h : H a = some (.ins C dx fs)) : TyX K H (.ref a) (.ref C) := .base (.ins h cl ix.cla ix.spe ix.tak ix.mro)
theorem kit_self (K : PySem.W.Frag) (C : Addr) : PySem.W.kitOne K (.ref C) (.ref C) = some true := by
  unfold PySem.W.kitOne
  rw [if_pos (beq_self_eq_true _)]
theorem first_self (K : PySem.W.Frag) (C : Addr) : PySem.W.notFirst K C (.ref C) = true := by
  unfold PySem.W.notFirst
  rw [beq_self_eq_true, Bool.true_or]
theorem InsX.first {K : PySem.W.Frag} {C : Addr} (ix : InsX K C) {T : String} (hT : T ∈ sixT) : PySem.W.notFirst K C (.type T) = true := by
  unfold PySem.W.notFirst
  rw [ix.fst T hT, beq_self_eq_true, Bool.or_true]
theorem plain_ty {K : PySem.W.Frag} {H : Hp} {x : V} {T : String} (h : plainTy H K x T) : TyX K H x (.type T) ∧ T ∈ sixT := by
  cases x with
  | non => cases (show T = "NoneType" from h); exact ⟨.base .non, by decide⟩
  | bl b => cases (show T = "bool" from h); exact ⟨.base (.bl b), by decide⟩
  | int i => cases (show T = "int" from h); exact ⟨.base (.int i), by decide⟩
  | str z => cases (show T = "str" from h); exact ⟨.base (.str z), by decide⟩
  | ref p =>
    rcases h with ⟨rfl, xs, (h | ⟨o, h⟩) | ⟨o, its, n, h1, h2, _⟩⟩ | ⟨rfl, xs, (h | ⟨o, h⟩) | ⟨o, its, n, h1, h2, _⟩⟩
    · exact ⟨.base (.lst h), by decide⟩
    · exact ⟨.base (.frz h), by decide⟩
    · exact ⟨.kList h1 h2, by decide⟩
    · exact ⟨.base (.tup h), by decide⟩
    · exact ⟨.fTuple h, by decide⟩
    · exact ⟨.kTuple h1 h2, by decide⟩
  | _ => exact False.elim h
/-! ### a Hook with one more Bool -/
abbrev AlB : Type := He.AlD × Bool
def obsB (n : Nat) (fa : List He.Fa) (fn : List He.DefD) (ex : PySem.W.Frag → Bool) (g : Addr → Option Obj) : AlB := (He.obsDG n fa fn g, ex (He.frG g (He.asD g n)))
def hookB (n : Nat) (fa : List He.Fa) (fn : List He.DefD) (ex : PySem.W.Frag → Bool) : PySem.W.Hook where
  α := AlB
  obs := fun s => obsB n fa fn ex s.heap.get?
  val := fun _ => (He.valD fn, true)
  says := fun _ h => ∃ K : PySem.W.Frag, K.In h ∧ He.SaysD fa fn K ∧ ex K = true
  of := fun _ _ e => ⟨_, He.frG_in, congrArg (fun z : AlB => z.1) e, congrArg (fun z : AlB => z.2) e⟩
  keeps := fun _ _ _ ⟨K, hK, c⟩ k => ⟨K, PySem.W.Frag.In.keeps hK k, c⟩
theorem obsB_eq {n : Nat} {fa : List He.Fa} {fn : List He.DefD} {ex : PySem.W.Frag → Bool} {g : Addr → Option Obj} {s : Shared} (h : ∀ a, g a = s.heap.get? a) : obsB n fa fn ex g = (hookB n fa fn ex).obs s := by
  have e : g = s.heap.get? := funext h
  rw [e] <;> rfl
end UO
namespace UO
open PySem L2
/-! ### keyword defaults that are empty tuples -/
def kwAdr (K : PySem.W.Frag) (f : Str × Option Str) (x : Str) : Addr := match K.lookup (He.fAd K f) with
  | some ⟨_, _, .func fd, _⟩ => (match fd.kwdefaults with
    | .ref D => (match PySem.W.nsIn K D x with
      | some (some (.ref a)) => a
      | _ => 0)
    | _ => 0)
  | _ => 0
def tup0B (K : PySem.W.Frag) (a : Addr) : Bool := match K.lookup a with
  | some ⟨.type c, _, .seq its _, _⟩ => decide (c = "tuple") && decide (its.size = 0)
  | _ => false
theorem tup0B_ok {K : PySem.W.Frag} {a : Addr} (h : tup0B K a = true) (H : Hp) : SqT K H a [] := by
  unfold tup0B at h
  cases q : K.lookup a with
  | none =>
    rw [q] at h
    cases h
  | some o =>
    obtain ⟨oc, od, dt, osl⟩ := o
    rw [q] at h
    cases oc with
    | type c =>
      cases dt with
      | seq its n =>
        obtain ⟨h1, h2⟩ := He.ba (show (decide (c = "tuple") && decide (its.size = 0)) = true from h)
        have e : its.size = 0 := of_decide_eq_true h2
        refine .inr ⟨_, its, n, q, congrArg Value.type (of_decide_eq_true h1), rfl, by rw [e]; exact Nat.zero_le _, ?_⟩
        rw [Array.eq_empty_of_size_eq_zero e]
        exact .nil
      | _ => cases h
    | _ => cases dt <;> cases h
end UO

namespace UO
open PySem L2
/-! ### two classes, two rules -/
structure PairX (K : PySem.W.Frag) (C D : Addr) : Prop where
  kit : PySem.W.kitOne K (.ref C) (.ref D) = some false
  fst : PySem.W.notFirst K C (.ref D) = true
def pairB (x y : Str) (K : PySem.W.Frag) : Bool := decide (PySem.W.kitOne K (.ref (He.ga K x)) (.ref (He.ga K y)) = some false) && PySem.W.notFirst K (He.ga K x) (.ref (He.ga K y))
theorem pairB_ok {x y : Str} {K : PySem.W.Frag} (h : pairB x y K = true) : PairX K (He.ga K x) (He.ga K y) := by
  obtain ⟨h1, h2⟩ := He.ba h
  exact ⟨of_decide_eq_true h1, h2⟩
def rOr (r1 r2 : R2) : R2 := fun x y H Q => r1 x y H Q ∨ r2 x y H Q
theorem op_or {X : Cx} {f : Value → Value → Sem Value} {r1 r2 : R2} (h1 : OpR X f r1) (h2 : OpR X f r2) : OpR X f (rOr r1 r2) := by
  intro pins s σ H x y v u Q I rx ry h
  rcases h with h | h
  · exact h1 pins s σ H x y v u Q I rx ry h
  · exact h2 pins s σ H x y v u Q I rx ry h
end UO
namespace UH
open PySem L2
/-! ### a Hook over a written row of addresses, and its run in parts -/
/-- n addresses from a on -/
def upto : Nat → Addr → List Addr
  | 0, _ => []
  | n + 1, a => a :: upto n (a + 1)
def obsA (as : List Addr) (fa : List He.Fa) (fn : List He.DefD) (ex : PySem.W.Frag → Bool) (g : Addr → Option Obj) : UO.AlB := (He.obsD fa fn (He.frG g as), ex (He.frG g as))
def hookA (as : List Addr) (fa : List He.Fa) (fn : List He.DefD) (ex : PySem.W.Frag → Bool) : PySem.W.Hook where
  α := UO.AlB
  obs := fun s => obsA as fa fn ex s.heap.get?
  val := fun _ => (He.valD fn, true)
  says := fun _ h => ∃ K : PySem.W.Frag, K.In h ∧ He.SaysD fa fn K ∧ ex K = true
  of := fun _ _ e => ⟨_, He.frG_in, congrArg Prod.fst e, congrArg Prod.snd e⟩
  keeps := fun _ _ _ q k => q.elim fun K c => ⟨K, PySem.W.Frag.In.keeps c.1 k, c.2⟩
theorem obsA_eq {as : List Addr} {fa : List He.Fa} {fn : List He.DefD} {ex : PySem.W.Frag → Bool} {g : Addr → Option Obj} {s : Shared} (h : ∀ a, g a = s.heap.get? a) : obsA as fa fn ex g = (hookA as fa fn ex).obs s := by
  cases (funext h : g = s.heap.get?)
  rfl
/-- what two looks at one end tell together -/
theorem both {α β γ : Type} {o : Option α} {f : α → β} {g : α → γ} {x : β} {y : γ} (p : o.map f = some x) (q : o.map g = some y) : o.map (fun a => (f a, g a)) = some (x, y) := by
  cases o with
  | none => cases p
  | some a => rw [Option.some.inj p.symm, Option.some.inj q.symm]; rfl
open PySem.W HandSHeadRun in
/-- the run's equation, look by look -/
theorem run_of {r : OpenRow} {q : Program} {H : Hook} {ob : SharedT → H.α} {M : Nat} {loose : List PySem.Str} {w : World}
    (h1 : ∀ os, (endF (stepQ (denQ tabQ) r.prog w) M r.prog w os).map (fun s => looksF r.prog (boot_heap w.params) s.abs) = some true)
    (h2 : ∀ os, (endF (stepQ (denQ tabQ) r.prog w) M r.prog w os).map (fun s => seenQ q loose (importedModules r.prog.main.body) (fun s => xlAt q [] s && recOk r.toRowW.records s) s.abs) = some (openGood q loose))
    (h3 : ∀ os, (endF (stepQ (denQ tabQ) r.prog w) M r.prog w os).map ob = some (H.val w)) : RunEq r q H ob M loose w :=
  fun os => both (h1 os) (both (h2 os) (h3 os))
end UH
/-! own layer: the order of texts, lists of pairs of texts, sets of texts, min(default=), sorted pairs -/
namespace UP
open PySem L2 UW

/-! ### the order of texts -/
def ltS (x y : Str) : Bool := decide (x.cps.toList < y.cps.toList)
def leS (x y : Str) : Bool := !ltS y x
theorem ltS_irr (x : Str) : ltS x x = false := decide_eq_false (List.lt_irrefl _)
theorem ltS_tr {x y z : Str} (h : ltS x y = true) (g : ltS y z = true) : ltS x z = true := decide_eq_true (List.lt_trans (of_decide_eq_true h) (of_decide_eq_true g))
theorem ltS_or {x y : Str} (h : ltS x y = false) (n : x ≠ y) : ltS y x = true := by
  have h1 : ¬ x.cps.toList < y.cps.toList := of_decide_eq_false h
  refine decide_eq_true ?_
  rcases Classical.em (y.cps.toList < x.cps.toList) with h2 | h2
  · exact h2
  · exact absurd (str_ext (List.le_antisymm (List.not_lt.mp h2) (List.not_lt.mp h1))) n
theorem leS_refl (x : Str) : leS x x = true := by
  unfold leS
  rw [ltS_irr]
  rfl
theorem leS_anti {x y : Str} (h : leS x y = true) (g : leS y x = true) : x = y := by
  rcases Classical.em (x = y) with e | e
  · exact e
  · have h1 : ltS y x = false := by
      unfold leS at h
      cases q : ltS y x
      · rfl
      · rw [q] at h
        cases h
    have := ltS_or h1 (fun z => e z.symm)
    unfold leS at g
    rw [this] at g
    cases g
theorem leS_tot (x y : Str) : leS x y = true ∨ leS y x = true := by
  unfold leS
  cases q : ltS y x
  · exact .inl rfl
  · refine .inr ?_
    cases p : ltS x y
    · rfl
    · have := ltS_tr q p
      rw [ltS_irr] at this
      cases this
theorem leS_of_lt {x y : Str} (h : ltS x y = true) : leS x y = true := by
  rcases leS_tot x y with g | g
  · exact g
  · unfold leS at g
    rw [h] at g
    cases g
theorem leS_tr {x y z : Str} (h : leS x y = true) (g : leS y z = true) : leS x z = true := by
  rcases Classical.em (x = y) with e | e
  · rw [e]
    exact g
  rcases Classical.em (y = z) with e' | e'
  · rw [← e']
    exact h
  have a : ltS x y = true := by
    unfold leS at h
    refine ltS_or ?_ (fun q => e q.symm)
    cases q : ltS y x
    · rfl
    · rw [q] at h
      cases h
  have b : ltS y z = true := by
    unfold leS at g
    refine ltS_or ?_ (fun q => e' q.symm)
    cases q : ltS z y
    · rfl
    · rw [q] at g
      cases g
  exact leS_of_lt (ltS_tr a b)
theorem rising_pw : ∀ {p : Str} {xs : List Str}, PyProof.Rows.risingS p xs = true → (p :: xs).Pairwise fun x y => leS x y = true
  | p, [], _ => List.pairwise_singleton ..
  | p, x :: xs, h => by
    unfold PyProof.Rows.risingS at h
    obtain ⟨h1, h2⟩ := Bool.and_eq_true_iff.mp h
    have ih := rising_pw h2
    have hpx : leS p x = true := by
      unfold leS ltS
      rw [← PyProof.Rows.ltCps_eq]
      exact h1
    refine List.pairwise_cons.mpr ⟨fun y hy => ?_, ih⟩
    rcases List.mem_cons.mp hy with e | hy
    · rw [e]
      exact hpx
    · exact leS_tr hpx ((List.pairwise_cons.mp ih).1 y hy)
theorem sorted_pw {xs : List Str} (h : PyProof.Rows.sortedS xs = true) : xs.Pairwise fun x y => leS x y = true := by
  cases xs with
  | nil => exact List.Pairwise.nil
  | cons x xs => exact rising_pw h
/-- two risings of one bag are one -/
theorem pw_uniq {α : Type} {r : α → α → Prop} (an : ∀ x y, r x y → r y x → x = y) : ∀ {xs ys : List α}, xs.Perm ys → xs.Pairwise r → ys.Pairwise r → xs = ys
  | [], ys, p, _, _ => (List.Perm.eq_nil p.symm).symm
  | x :: xs, [], p, _, _ => absurd p.length_eq (by simp)
  | x :: xs, y :: ys, p, h, g => by
    have e : x = y := by
      rcases List.mem_cons.mp (p.mem_iff.mp (List.mem_cons_self (a := x) (l := xs))) with e | hx
      · exact e
      · rcases List.mem_cons.mp (p.mem_iff.mpr (List.mem_cons_self (a := y) (l := ys))) with e | hy
        · exact e.symm
        · exact an _ _ ((List.pairwise_cons.mp h).1 y hy) ((List.pairwise_cons.mp g).1 x hx)
    subst e
    rw [pw_uniq an p.cons_inv (List.pairwise_cons.mp h).2 (List.pairwise_cons.mp g).2]
/-- sorted(texts) -/
def srt (xs : List Str) : List Str := xs.mergeSort leS
theorem srt_perm (xs : List Str) : (srt xs).Perm xs := List.mergeSort_perm ..
theorem srt_pw (xs : List Str) : (srt xs).Pairwise fun x y => leS x y = true := by
  refine List.pairwise_mergeSort (le := leS) (fun a b c h g => leS_tr h g) (fun a b => ?_) xs
  rcases leS_tot a b with h | h
  · rw [h]
    rfl
  · rw [h, Bool.or_true]
theorem srt_uniq {xs ys : List Str} (p : ys.Perm xs) (h : ys.Pairwise fun x y => leS x y = true) : ys = srt xs :=
  pw_uniq (fun _ _ a b => leS_anti a b) (p.trans (srt_perm xs).symm) h (srt_pw xs)
theorem srt_of {xs ys : List Str} (p : ys.Perm xs) (h : PyProof.Rows.sortedS ys = true) : ys = srt xs := srt_uniq p (sorted_pw h)
theorem srt_mem {x : Str} {xs : List Str} : x ∈ srt xs ↔ x ∈ xs := (srt_perm xs).mem_iff
theorem srt_len (xs : List Str) : (srt xs).length = xs.length := (srt_perm xs).length_eq
theorem srt_nodup {xs : List Str} (h : xs.Nodup) : (srt xs).Nodup := (srt_perm xs).nodup_iff.mpr h
/-- the least one of which p is true -/
def Least (p : Str → Prop) : Option Str → Prop
  | none => ∀ x, ¬ p x
  | some m => p m ∧ ∀ x, p x → leS m x = true
theorem Least.uniq {p : Str → Prop} {a b : Option Str} (h : Least p a) (g : Least p b) : a = b := by
  cases a with
  | none =>
    cases b with
    | none => rfl
    | some y => exact absurd g.1 (h y)
  | some x =>
    cases b with
    | none => exact absurd h.1 (g x)
    | some y => rw [leS_anti (h.2 y g.1) (g.2 x h.1)]
theorem Least.iff {p q : Str → Prop} {a : Option Str} (h : Least p a) (e : ∀ x, p x ↔ q x) : Least q a := by
  cases a with
  | none => exact fun x z => h x ((e x).mpr z)
  | some m => exact ⟨(e m).mp h.1, fun x z => h.2 x ((e x).mpr z)⟩

/-! ### lists of pairs of texts -/
inductive Prs (K : PySem.W.Frag) (H : Hp) : List V → List (Str × Str) → Prop
  | nil : Prs K H [] []
  | cons {t : Addr} {d : Str × Str} {xs : List V} {ds : List (Str × Str)} : SqT K H t [.str d.1, .str d.2] → Prs K H xs ds → Prs K H (.ref t :: xs) (d :: ds)
section
variable {K : PySem.W.Frag} {H H' : Hp} {xs ys : List V} {ds es : List (Str × Str)}
theorem Prs.same (h : Prs K H xs ds) (s : Same H H') : Prs K H' xs ds := by
  induction h with
  | nil => exact .nil
  | cons a _ ih => exact .cons (tup_same s a) ih
theorem Prs.keep {q : Addr} (h : Prs K H xs ds) (k : Kp q H H') (n : NotTp H q) : Prs K H' xs ds := by
  induction h with
  | nil => exact .nil
  | cons a _ ih => exact .cons (k.tup n a) ih
theorem Prs.len (h : Prs K H xs ds) : xs.length = ds.length := by
  induction h with
  | nil => rfl
  | cons _ _ ih => rw [List.length_cons, List.length_cons, ih]
theorem Prs.app (h : Prs K H xs ds) (g : Prs K H ys es) : Prs K H (xs ++ ys) (ds ++ es) := by
  induction h with
  | nil => exact g
  | cons a _ ih => exact .cons a ih
theorem Prs.one {t : Addr} {d : Str × Str} (a : SqT K H t [.str d.1, .str d.2]) : Prs K H [.ref t] [d] := .cons a .nil
theorem Prs.rev (h : Prs K H xs ds) : Prs K H xs.reverse ds.reverse := by
  induction h with
  | nil => exact .nil
  | cons a _ ih =>
    rw [List.reverse_cons, List.reverse_cons]
    exact ih.app (.one a)
theorem Prs.get {i : Nat} {x : V} (h : Prs K H xs ds) (e : xs[i]? = some x) : ∃ t d, x = .ref t ∧ ds[i]? = some d ∧ SqT K H t [.str d.1, .str d.2] := by
  induction h generalizing i with
  | nil => simp at e
  | @cons t d _ _ a _ ih =>
    cases i with
    | zero =>
      cases e
      exact ⟨t, d, rfl, rfl, a⟩
    | succ i => exact ih e
def enc2 (d : Str × Str) : PyData := .tuple [.str d.1, .str d.2]
def Ok2 (d : Str × Str) : Prop := PyData.strOk d.1 = true ∧ PyData.strOk d.2 = true
theorem Prs.dp (h : Prs K H xs ds) : DpAll K H xs (ds.map enc2) := by
  induction h with
  | nil => exact .nil
  | cons a _ ih => exact .cons (.tup a (.cons (.str _) (.cons (.str _) .nil))) ih
theorem lay2 {d : Str × Str} (h : Ok2 d) : PyData.canLay0 (enc2 d) = true ∧ PyData.depth (enc2 d) = 1 := by
  unfold enc2
  refine ⟨?_, ?_⟩
  · simp only [PyData.canLay0, PyData.canLayAll0, h.1, h.2, Bool.and_self]
  · simp only [PyData.depth, PyData.depthAll, Nat.max_self]
theorem layAll2 : ∀ {ds : List (Str × Str)}, (∀ d ∈ ds, Ok2 d) → PyData.canLayAll0 (ds.map enc2) = true ∧ PyData.depthAll (ds.map enc2) ≤ 1
  | [], _ => ⟨by simp only [List.map_nil, PyData.canLayAll0], by simp only [List.map_nil, PyData.depthAll]; decide⟩
  | d :: ds, h => by
    obtain ⟨c, e⟩ := layAll2 fun y hy => h y (List.mem_cons_of_mem _ hy)
    obtain ⟨c1, e1⟩ := lay2 (h d (List.mem_cons_self ..))
    rw [List.map_cons]
    refine ⟨by simp only [PyData.canLayAll0, c1, c, Bool.and_self], ?_⟩
    simp only [PyData.depthAll, e1]
    omega
theorem shaped2 {d : Str × Str} (h : Ok2 d) : SeqAt.shaped (enc2 d) = true := by
  obtain ⟨a, b⟩ := lay2 h
  refine Bool.and_eq_true_iff.mpr ⟨a, decide_eq_true ?_⟩
  rw [b]
  decide
theorem shapedL2 {ds : List (Str × Str)} (h : ∀ d ∈ ds, Ok2 d) : SeqAt.shaped (.list (ds.map enc2)) = true := by
  obtain ⟨a, b⟩ := layAll2 h
  refine Bool.and_eq_true_iff.mpr ⟨?_, decide_eq_true ?_⟩
  · simp only [PyData.canLay0]
    exact a
  · simp only [PyData.depth]
    omega
theorem eqv2 (d e : Str × Str) : PyData.eqv (enc2 d) (enc2 e) = decide (d = e) := by
  obtain ⟨a, b⟩ := d
  obtain ⟨c, f⟩ := e
  have q := eqvAll_strs [a, b] [c, f]
  unfold enc2
  rw [show ∀ xs ys, PyData.eqv (.tuple xs) (.tuple ys) = PyData.eqvAll xs ys from fun xs ys => by simp only [PyData.eqv]]
  refine q.trans (decide_eq_decide.mpr ⟨fun z => ?_, fun z => ?_⟩)
  · injection z with z1 z2
    injection z2 with z2 _
    rw [z1, z2]
  · injection z with z1 z2
    rw [z1, z2]
theorem any2 (d : Str × Str) : ∀ ds : List (Str × Str), ((ds.map enc2).any fun z => PyData.eqv z (enc2 d)) = decide (d ∈ ds)
  | [] => rfl
  | e :: ds => by
    rw [List.map_cons, List.any_cons, any2 d ds, eqv2]
    by_cases h : e = d
    · rw [decide_eq_true h, Bool.true_or, decide_eq_true (by rw [h]; exact List.mem_cons_self ..)]
    · rw [decide_eq_false h, Bool.false_or]
      exact decide_eq_decide.mpr ⟨fun z => List.mem_cons_of_mem _ z, fun z => (List.mem_cons.mp z).resolve_left fun q => h q.symm⟩
theorem eqvAll2 : ∀ ds es : List (Str × Str), PyData.eqvAll (ds.map enc2) (es.map enc2) = decide (ds = es)
  | [], [] => by simp only [List.map_nil, PyData.eqvAll]; rfl
  | [], y :: ys => by simp only [List.map_nil, List.map_cons, PyData.eqvAll]; rfl
  | x :: xs, [] => by simp only [List.map_nil, List.map_cons, PyData.eqvAll]; rfl
  | x :: xs, y :: ys => by
    rw [List.map_cons, List.map_cons, show ∀ a b as bs, PyData.eqvAll (a :: as) (b :: bs) = (PyData.eqv a b && PyData.eqvAll as bs) from fun a b as bs => by simp only [PyData.eqvAll], eqvAll2 xs ys, eqv2]
    by_cases h : x = y
    · rw [decide_eq_true h, Bool.true_and]
      exact decide_eq_decide.mpr ⟨fun e => by rw [h, e], fun e => by injection e⟩
    · rw [decide_eq_false h, Bool.false_and]
      exact (decide_eq_false fun e => h (by injection e)).symm
theorem eqvL2 (ds es : List (Str × Str)) : PyData.eqv (.list (ds.map enc2)) (.list (es.map enc2)) = decide (ds = es) := by
  rw [show ∀ xs ys, PyData.eqv (.list xs) (.list ys) = PyData.eqvAll xs ys from fun xs ys => by simp only [PyData.eqv]]
  exact eqvAll2 ds es
theorem inD2 {t a : Addr} {d : Str × Str} {Q : VK} (ht : SqT K H t [.str d.1, .str d.2]) (ha : SqL K H a xs) (hx : Prs K H xs ds) (k : Ok2 d) (ks : ∀ d ∈ ds, Ok2 d) (q : Q (.bl (decide (d ∈ ds))) H) : rInD K (.ref t) (.ref a) H Q := by
  refine ⟨enc2 d, ds.map enc2, .tup ht (.cons (.str _) (.cons (.str _) .nil)), .lst ha hx.dp, shaped2 k, shapedL2 ks, ?_⟩
  rw [any2]
  exact q
theorem notInD2 {t a : Addr} {d : Str × Str} {Q : VK} (ht : SqT K H t [.str d.1, .str d.2]) (ha : SqL K H a xs) (hx : Prs K H xs ds) (k : Ok2 d) (ks : ∀ d ∈ ds, Ok2 d) (q : Q (.bl (!decide (d ∈ ds))) H) : rNotInD K (.ref t) (.ref a) H Q := by
  refine ⟨enc2 d, ds.map enc2, .tup ht (.cons (.str _) (.cons (.str _) .nil)), .lst ha hx.dp, shaped2 k, shapedL2 ks, ?_⟩
  rw [any2]
  exact q
theorem neD2 {a b : Addr} {Q : VK} (ha : SqL K H a xs) (hx : Prs K H xs ds) (hb : SqL K H b ys) (hy : Prs K H ys es) (k : ∀ d ∈ ds, Ok2 d) (k' : ∀ d ∈ es, Ok2 d) (q : Q (.bl (!decide (ds = es))) H) : rNeD K (.ref a) (.ref b) H Q := by
  refine ⟨_, _, .lst ha hx.dp, .lst hb hy.dp, shapedL2 k, shapedL2 k', ?_⟩
  rw [eqvL2]
  exact q
theorem eqD2 {a b : Addr} {Q : VK} (ha : SqL K H a xs) (hx : Prs K H xs ds) (hb : SqL K H b ys) (hy : Prs K H ys es) (k : ∀ d ∈ ds, Ok2 d) (k' : ∀ d ∈ es, Ok2 d) (q : Q (.bl (decide (ds = es))) H) : rEqD K (.ref a) (.ref b) H Q := by
  refine ⟨_, _, .lst ha hx.dp, .lst hb hy.dp, shapedL2 k, shapedL2 k', ?_⟩
  rw [eqvL2]
  exact q
end
end UP

namespace UP
open PySem PySem.Spec PyProof.Rows L2 UW
/-! ### min(texts, default=None) -/
def rMinS (K : PySem.W.Frag) : List V → List V → Hp → VK → Prop := fun vs zs H Q => ∃ (a : Addr) (xs : List Str), vs = [.ref a] ∧ zs = [.non] ∧ SqL K H a (xs.map V.str) ∧ ∀ o, Least (fun x => x ∈ xs) o → Q (optV o) H
theorem minOf_mem (x : Str) : ∀ xs : List Str, PySem.W.minOf x xs ∈ x :: xs
  | [] => List.mem_cons_self ..
  | y :: ys => by
    show PySem.W.minOf (if PySem.W.DatumOrd.lt y x = true then y else x) ys ∈ x :: y :: ys
    have := minOf_mem (if PySem.W.DatumOrd.lt y x = true then y else x) ys
    rcases List.mem_cons.mp this with e | e
    · rw [e]
      split
      · exact List.mem_cons_of_mem _ (List.mem_cons_self ..)
      · exact List.mem_cons_self ..
    · exact List.mem_cons_of_mem _ (List.mem_cons_of_mem _ e)
theorem minOf_le (x : Str) : ∀ xs : List Str, ∀ z ∈ x :: xs, leS (PySem.W.minOf x xs) z = true
  | [], z, hz => by
    rw [List.mem_singleton.mp hz]
    exact leS_refl _
  | y :: ys, z, hz => by
    show leS (PySem.W.minOf (if PySem.W.DatumOrd.lt y x = true then y else x) ys) z = true
    have ih := minOf_le (if PySem.W.DatumOrd.lt y x = true then y else x) ys
    have h0 := ih _ (List.mem_cons_self ..)
    have hx : leS (if PySem.W.DatumOrd.lt y x = true then y else x) x = true ∧ leS (if PySem.W.DatumOrd.lt y x = true then y else x) y = true := by
      rcases Classical.em (PySem.W.DatumOrd.lt y x = true) with c | c
      · rw [if_pos c]
        exact ⟨leS_of_lt c, leS_refl _⟩
      · rw [if_neg c]
        refine ⟨leS_refl _, ?_⟩
        unfold leS
        rw [show ltS y x = false from Bool.eq_false_iff.mpr c]
        rfl
    rcases List.mem_cons.mp hz with e | hz
    · rw [e]
      exact leS_tr h0 hx.1
    · rcases List.mem_cons.mp hz with e | hz
      · rw [e]
        exact leS_tr h0 hx.2
      · exact ih z (List.mem_cons_of_mem _ hz)
theorem vals_get : ∀ {vs : List V} {us : List Value}, Vals vs us → ∀ {i : Nat} {v : Value}, us[i]? = some v → ∃ x, vs[i]? = some x ∧ RelV x v
  | _, _, .nil, i, v, h => by simp at h
  | _, _, .cons r t, 0, v, h => by
    cases h
    exact ⟨_, rfl, r⟩
  | _, _, .cons r t, i + 1, v, h => vals_get t (i := i) h
theorem cr_minS {X : Cx} (hc : X.calm = true) (hu : X.A.units + 64 < cLine) : CallRK X (.builtin "min") [Str.ofString "default"] (rMinS X.K) := by
  intro pins s σ H vs zs us ws Q I r rz h
  obtain ⟨a, xs, rfl, rfl, hs, q⟩ := h
  obtain ⟨its, rv, hl, _⟩ := I.list hs
  rw [Vals.ref1 r]
  obtain ⟨w1, rfl, rfl⟩ := vals1 rz
  obtain ⟨as, hr⟩ := Dp.readsAll I (xs.map PyData.str) _ _ (dpAll_strs (K := X.K) (H := H) xs) rv
  have hold : PySem.W.HoldAll s.heap its.toArray.toList xs := ⟨as, hr⟩
  refine PySem.W.min_list_datum_default (I.ok.hd hc) hl.isList hold (by show X.A.units + 1 + _ < cLine; have : PySem.W.Datum.depth Str = 0 := rfl; omega) (fun e h' tk hk => ⟨.non, H, I.kept hk, rfl, ?_⟩) fun y ys i v h' tk e hi hv hk => ?_
  · subst e
    exact q none (fun x hx => nomatch hx)
  · subst e
    obtain ⟨bs, rd⟩ := hv
    have hi' : its[i]? = some v := by rw [← List.getElem?_toArray]; exact hi
    obtain ⟨x, hx, rx⟩ := vals_get rv hi'
    obtain ⟨w, hw, rfl⟩ := map_str_get hx
    obtain ⟨t, rfl⟩ := rx
    have ew : w = PySem.W.minOf y ys := by
      change PySem.Reads h' (.str w t) (.str (PySem.W.minOf y ys)) bs at rd
      cases rd
      rfl
    refine ⟨.str w, H, I.kept hk, ⟨t, rfl⟩, ?_⟩
    rw [ew]
    exact q (some _) ⟨minOf_mem y ys, fun z hz => minOf_le y ys z hz⟩
end UP

namespace UP
open PySem L2
theorem take_snoc {α : Type} {ds : List α} {i : Nat} {d : α} (h : ds[i]? = some d) : ds.take (i + 1) = ds.take i ++ [d] := by
  rw [List.take_add_one, h]
  rfl
theorem un65 {k : Nat} {A : Around} (r : Room k A) : A.units + 65 < cLine := by
  have := r.un
  omega
end UP

namespace UP
open PySem PySem.Spec PyProof.Rows L2
theorem binds_all {K : PySem.W.Frag} {fd : FuncData} {ps : List Str} (h : ∃ ds, Vals [] ds ∧ Binds K fd ps ds) : Binds K fd ps [] := by
  obtain ⟨ds, r, b⟩ := h
  cases r
  exact b
section
variable {X : Cx}
/-- y = {k: v for ..}, y a plain local -/
theorem ps_setDc {i : Nat} {y : Str} {py pos spos : Pos} {kx vx tg iter : Expr} {ifs : List Expr} {scope : Scope} {own : List (Str × Nat)} {wi : TI} {g : TG} {tt : TT} {tk tv : TE}
    (hc : X.calm = true) (hN : X.N.Nodup) (hy : X.N[i]? = some y) (hyl : X.env.scope.names.lookup y = some .local) (hsw : swapsWith (.DictComp kx vx [⟨tg, iter, ifs, 0⟩] scope pos) (some (.Name y py)) spos.line X.env = pure true)
    (hi : PI X tg iter wi) (ok : BlkOk X.N X.env.scope scope own)
    (hg : ∀ s H C cl fp, PG (X.blk s H scope (compEnvC scope cl C X.env) fp) tg g) (ht : ∀ s H C cl fp, PTs (X.blk s H scope (compEnvC scope cl C X.env) fp) ifs tt)
    (hk : ∀ s H C cl fp, PE (X.blk s H scope (compEnvC scope cl C X.env) fp) kx tk) (hv : ∀ s H C cl fp, PE (X.blk s H scope (compEnvC scope cl C X.env) fp) vx tv)
    (hs : ∀ x, foldedSetIterable iter X.env x = pure x := by intro _; rfl) :
    PS X (.Assign [.Name y py] (.DictComp kx vx [⟨tg, iter, ifs, 0⟩] scope pos) spos) (tAsg (tDc wi g tt tk tv (own.map (·.2))) (gName i)) := by
  refine ⟨fun pins s σ H D I h => ?_⟩
  rw [exec_Assign_Name_used _ _ _ _ hsw]
  refine wpAny_bind (wpAny_standAt (wpAny_bind (wpAny_bind (m := comprehension _ _ _ _ newDict false (eval iter X.env) (some (assign (.Name y py) X.env))) (thn ?_ fun _ z q => wpAny_pure (wpAny_pure q)))))
  refine dc_core (Qf := fun _ z => SP X pins D .next z) hc hN I hi ok hg ht hk hv hs (Q := fun x H1 => gName i x σ H1 D.nx) h fun L C z m H2 I2 q ns fp => ?_
  show wpAny _ _ (assign (.Name y py) X.env (.ref L)) _ _ _
  refine wpAny_assign_Name (store_ok2 (v := V.ref L) I2 hN hy (.inl hyl) rfl (fun z2 J ⟨a, sb, ha⟩ => ?_) (.inr hyl))
  obtain ⟨f0, f1, f2, f3, f4, f5⟩ := fp
  have ne : C ≠ a := ha.elim (fun e => e ▸ f1) fun e q => f4 y a e q.symm
  exact ⟨m, ns.sameBut sb ne, fun h3 sb3 => ⟨_, H2, J.turned (t' := z2.toks) (fun b o hb e => (sb3.2 b hb).trans e) f0 f1 f3 f4 f5, q⟩⟩
theorem sw_dict {kx vx : Expr} {gs : List Comprehension} {scope : Scope} {pos py : Pos} {y : Str} {l : Nat} {env : Env} (hk : env.scope.kind = .function) (hy : env.scope.names.lookup y = some .local) (hl : (py.line == pos.line) = true)
    (ha : (scope.names.any fun (n, k) => n == y && (k == .local || k == .cell)) = false) : swapsWith (.DictComp kx vx gs scope pos) (some (.Name y py)) l env = pure true := by
  have e1 : env.kindOf y = some .local := hy
  have e2 : env.blockKind = .function := by
    unfold Env.blockKind
    rw [hk]
    rfl
  unfold swapsWith
  simp only [e2, e1, ha, Expr.pos, hl]
  rfl
end
end UP

namespace UP
open PySem L2
theorem pe_fldK {X : Cx} {K : PySem.W.Frag} {e : Expr} {f : Str} {pos : Pos} {ta : TE} (hK : X.K = K) (he : PE X e ta) (hb : attributeBase e f X.env (eval e X.env) = eval e X.env) : PE X (.Attribute e f pos) (tFld K ta f) := by
  subst hK
  exact pe_fld he hb
end UP

namespace UP
open PySem L2
theorem pi_listK {X : Cx} {K : PySem.W.Frag} {tg e : Expr} {te : TE} (hK : X.K = K) (he : PE X e te) : PI X tg e (iList K te) := by
  subst hK
  exact pi_list he
theorem pi_tupK {X : Cx} {K : PySem.W.Frag} {tg e : Expr} {te : TE} (hK : X.K = K) (he : PE X e te) : PI X tg e (iTup K te) := by
  subst hK
  exact pi_tup he
end UP

namespace UP
open PySem L2
/-- a walk by one rule or by another -/
def iOr (a b : TI) : TI := fun σ H R => a σ H R ∨ b σ H R
theorem pi_or {X : Cx} {tg e : Expr} {a b : TI} (h : PI X tg e a) (g : PI X tg e b) : PI X tg e (iOr a b) :=
  ⟨fun pins s σ H R I q => q.elim (h.run pins s σ H R I) (g.run pins s σ H R I)⟩
end UP
/-! own layer: dicts by names, what holds of each entry; dict comprehensions walked; the pure side of shelves -/
namespace UT
open PySem L2 UW UP
/-- a dict by names: R of each name's value -/
inductive Tab {α : Type} (R : V → Str → α → Prop) : List (Key × V) → List (Str × α) → Prop
  | nil : Tab R [] []
  | cons {kvs : List (Key × V)} {us : List (Str × α)} {w : Str} {v : V} {u : α} (e : R v w u) (h : Tab R kvs us) : Tab R ((Sum.inr w, v) :: kvs) ((w, u) :: us)
section
variable {α : Type} {R R' : V → Str → α → Prop} {kvs kvs' : List (Key × V)} {us us' : List (Str × α)}
theorem Tab.imp (h : Tab R kvs us) (f : ∀ v w u, R v w u → R' v w u) : Tab R' kvs us := by
  induction h with
  | nil => exact .nil
  | cons e _ ih => exact .cons (f _ _ _ e) ih
theorem Tab.app (h : Tab R kvs us) (g : Tab R kvs' us') : Tab R (kvs ++ kvs') (us ++ us') := by
  induction h with
  | nil => exact g
  | cons e _ ih => exact .cons e ih
theorem Tab.len (h : Tab R kvs us) : kvs.length = us.length := by
  induction h with
  | nil => rfl
  | cons _ _ ih => rw [List.length_cons, List.length_cons, ih]
theorem Tab.keys (h : Tab R kvs us) : kvs.map (·.1) = (us.map (·.1)).map Sum.inr := by
  induction h with
  | nil => rfl
  | cons _ _ ih => rw [List.map_cons, List.map_cons, List.map_cons, ih]
theorem Tab.free (h : Tab R kvs us) {w : Str} (hw : w ∉ us.map (·.1)) : valV kvs (Sum.inr w : Key) = none := by
  induction h with
  | nil => rfl
  | cons _ _ ih =>
    rw [valV_neg (fun z => hw (by rw [List.map_cons]; cases z; exact List.mem_cons_self ..))]
    exact ih fun z => hw (List.mem_cons_of_mem _ z)
theorem Tab.get (h : Tab R kvs us) (hn : (us.map (·.1)).Nodup) : ∀ p ∈ us, ∃ v, valV kvs (Sum.inr p.1 : Key) = some v ∧ R v p.1 p.2 := by
  induction h with
  | nil => intro p hp; cases hp
  | @cons _ us w v u e _ ih =>
    intro p hp
    obtain ⟨h1, h2⟩ := List.nodup_cons.mp hn
    rcases List.mem_cons.mp hp with rfl | hp'
    · exact ⟨v, valV_pos rfl, e⟩
    · obtain ⟨v', hv, r⟩ := ih h2 p hp'
      refine ⟨v', ?_, r⟩
      rw [valV_neg (fun z => h1 (List.mem_map.mpr ⟨p, hp', (Sum.inr.inj z).symm⟩))]
      exact hv
theorem Tab.at (h : Tab R kvs us) {i : Nat} {k : Key} {v : V} (e : kvs[i]? = some (k, v)) : ∃ w u, k = Sum.inr w ∧ us[i]? = some (w, u) ∧ R v w u := by
  induction h generalizing i with
  | nil => simp at e
  | @cons _ _ w v' u r _ ih =>
    cases i with
    | zero =>
      cases e
      exact ⟨w, u, rfl, rfl, r⟩
    | succ i => exact ih e
/-- one name's facts made others -/
def setU (us : List (Str × α)) (w : Str) (u : α) : List (Str × α) := us.map fun p => if p.1 = w then (w, u) else p
theorem setU_names (us : List (Str × α)) (w : Str) (u : α) : (setU us w u).map (·.1) = us.map (·.1) := by
  unfold setU
  rw [List.map_map]
  refine List.map_congr_left fun p _ => ?_
  show (if p.1 = w then (w, u) else p).1 = p.1
  by_cases c : p.1 = w
  · rw [if_pos c, c]
  · rw [if_neg c]
theorem Tab.put (h : Tab R kvs us) {w : Str} {v : V} {u : α} (hw : w ∈ us.map (·.1)) (r : R v w u) : Tab R (putK kvs (Sum.inr w) v) (setU us w u) := by
  have a : (kvs.any fun kv => decide (kv.1 = (Sum.inr w : Key))) = true := by
    have : (Sum.inr w : Key) ∈ kvs.map (·.1) := by
      rw [h.keys]
      exact List.mem_map.mpr ⟨w, hw, rfl⟩
    obtain ⟨p, hp, e⟩ := List.mem_map.mp this
    exact List.any_eq_true.mpr ⟨p, hp, decide_eq_true e⟩
  unfold putK
  rw [if_pos a]
  clear a hw
  unfold setU
  induction h with
  | nil => exact .nil
  | @cons _ _ w' v' u' e _ ih =>
    rw [List.map_cons, List.map_cons]
    by_cases c : w' = w
    · subst c
      rw [if_pos rfl, if_pos rfl]
      exact .cons r ih
    · rw [if_neg (fun z => c (by cases z; rfl)), if_neg c]
      exact .cons e ih
end
/-! ### dict comprehensions, walked -/
theorem dc_it {J : It} {n : Nat} {G : Hp → Prop} {Y : Nat → Hp → V → Hp → Prop} (w : Walk J n G Y) {g : TG} {tt : TT} {tk tv : TE} {vs : List Nat} {σ : L2.St} {H1 : Hp} {D : Addr} {Qd : Hp → Prop} (Pv : Nat → Hp → Prop) (h0 : Pv 0 (upd H1 D (.dK []))) (hG : ∀ i H, i ≤ n → Pv i H → G H)
    (hs : ∀ i x H H', i < n → Pv i H → Y i H x H' → g x (wipe σ vs) H' fun σ2 H2 => wipe σ2 vs = wipe σ vs ∧ tt σ2 H2 fun b H3 =>
      if b = true then tk σ2 H3 fun y H4 => tv σ2 H4 fun z H5 => ∃ kvs k, y = kV k ∧ H5 D = some (.dK kvs) ∧ kvs.length < sizeLine ∧ Pv (i + 1) (upd H5 D (.dK (putK kvs k z))) else Pv (i + 1) H3)
    (hd : ∀ H, Pv n H → Qd H) :
    ∃ W : Nat → Nat → Hp → Prop, (∃ m, W 0 m (upd H1 D (.dK []))) ∧ ∀ i m H, W i m H →
      (J.stop i H ∧ Qd H) ∨ (J.go i H ∧ ∃ Nx : Hp → Prop, (∀ H', Nx H' → ∃ m', m' < m ∧ W (i + 1) m' H') ∧ ∀ x H', J.yld i H x H' → g x (wipe σ vs) H' fun σ2 H2 => wipe σ2 vs = wipe σ vs ∧ tt σ2 H2 fun b H3 =>
        if b = true then tk σ2 H3 fun y H4 => tv σ2 H4 fun z H5 => ∃ kvs k, y = kV k ∧ H5 D = some (.dK kvs) ∧ kvs.length < sizeLine ∧ Nx (upd H5 D (.dK (putK kvs k z))) else Nx H3) := by
  refine ⟨fun i m H => i ≤ n ∧ m = n - i ∧ Pv i H, ⟨n, Nat.zero_le _, rfl, h0⟩, fun i m H ⟨hi, e, p⟩ => ?_⟩
  subst e
  have gH := hG i H hi p
  rcases Nat.lt_or_eq_of_le hi with lt | e
  · exact .inr ⟨w.goes i H lt gH, Pv (i + 1), fun H' p' => ⟨n - (i + 1), by omega, lt, rfl, p'⟩, fun x H' y => hs i x H H' lt p (w.yields i H x H' lt gH y)⟩
  · subst e
    exact .inl ⟨w.stops H gH, hd H p⟩
theorem at5 {α : Type} {a b c d e f : α} {r : List α} : atI (a :: b :: c :: d :: e :: f :: r) 5 = some f := atI_nat (j := 5) rfl
theorem at6 {α : Type} {a b c d e f g : α} {r : List α} : atI (a :: b :: c :: d :: e :: f :: g :: r) 6 = some g := atI_nat (j := 6) rfl
/-! ### the pure side -/
/-- the facts of a name -/
def fu (us : List (Str × UF)) (w : Str) : Option UF := (us.find? fun p => decide (p.1 = w)).map (·.2)
theorem fu_some {us : List (Str × UF)} (hn : (us.map (·.1)).Nodup) {p : Str × UF} (hp : p ∈ us) : fu us p.1 = some p.2 := by
  unfold fu
  induction us with
  | nil => cases hp
  | cons q us ih =>
    obtain ⟨h1, h2⟩ := List.nodup_cons.mp hn
    rcases List.mem_cons.mp hp with rfl | hp
    · rw [List.find?_cons_of_pos (by exact decide_eq_true rfl)]
      rfl
    · rw [List.find?_cons_of_neg (by exact fun z => h1 (List.mem_map.mpr ⟨p, hp, (of_decide_eq_true z).symm⟩))]
      exact ih h2 hp
theorem fu_of {us : List (Str × UF)} {w : Str} (hw : w ∈ us.map (·.1)) (hn : (us.map (·.1)).Nodup) : ∃ u, fu us w = some u ∧ (w, u) ∈ us := by
  obtain ⟨p, hp, rfl⟩ := List.mem_map.mp hw
  exact ⟨p.2, fu_some hn hp, hp⟩
/-- o stands in the needs or the after of w, or opens it -/
def waitsB (us : List (Str × UF)) (w o : Str) : Bool := match fu us w, fu us o with
  | some u, some v => decide (o ∈ u.needs) || (decide (o ∈ u.after) || decide (v.opens = some w))
  | _, _ => false
/-- for whom w waits, rising -/
def wt (us : List (Str × UF)) (w : Str) : List Str := (srt (us.map (·.1))).filter (waitsB us w)
theorem srt_filter (p : Str → Bool) (l : List Str) : srt (l.filter p) = (srt l).filter p :=
  (srt_uniq ((srt_perm l).filter p) ((srt_pw l).filter p)).symm
theorem wt_mem {us : List (Str × UF)} {w o : Str} : o ∈ wt us w ↔ o ∈ us.map (·.1) ∧ waitsB us w o = true := by
  unfold wt
  rw [List.mem_filter, srt_mem]
theorem waits_self {us : List (Str × UF)} (hn : (us.map (·.1)).Nodup) (h : ∀ p ∈ us, p.1 ∉ p.2.needs ∧ p.1 ∉ p.2.after ∧ p.2.opens ≠ some p.1) (w : Str) : w ∉ wt us w := fun hw => by
  obtain ⟨h1, h2⟩ := wt_mem.mp hw
  obtain ⟨u, hu, hm⟩ := fu_of h1 hn
  obtain ⟨a, b, c⟩ := h _ hm
  unfold waitsB at h2
  rw [hu] at h2
  simp only [decide_eq_false a, decide_eq_false b, decide_eq_false c, Bool.or_self] at h2
  cases h2
/-! ### rings and orders, for any relation -/
section
variable (W : Str → List Str)
/-- some of the names wait for one another without end -/
def Knotted (ns : List Str) : Prop := ∃ S : List Str, S ≠ [] ∧ (∀ n ∈ S, n ∈ ns) ∧ ∀ n ∈ S, ∃ o ∈ W n, o ∈ S
structure FreeO (ns order : List Str) : Prop where
  nd : order.Nodup
  sub : ∀ n ∈ order, n ∈ ns
  pre : ∀ i n, order[i]? = some n → ∀ o ∈ W n, o ∈ ns → o ∈ order.take i
structure IsRing (ns r : List Str) : Prop where
  two : 2 ≤ r.length
  nd : r.Nodup
  sub : ∀ n ∈ r, n ∈ ns
  step : ∀ i n, r[i]? = some n → ∃ o, r[(i + 1) % r.length]? = some o ∧ o ∈ W n
variable {W}
theorem FreeO.nil (ns : List Str) : FreeO W ns [] := ⟨List.nodup_nil, (fun n h => nomatch h), fun i n h => by simp at h⟩
theorem FreeO.snoc {ns order : List Str} (f : FreeO W ns order) {n : Str} (hn : n ∈ ns) (h : n ∉ order) (hw : ∀ o ∈ W n, o ∈ ns → o ∈ order) : FreeO W ns (order ++ [n]) := by
  refine ⟨?_, fun x hx => ?_, fun i x hx o ho hs => ?_⟩
  · rw [List.nodup_append]
    exact ⟨f.nd, List.nodup_cons.mpr ⟨by simp, List.nodup_nil⟩, fun a ha b hb e => h (by rw [← List.mem_singleton.mp hb, ← e]; exact ha)⟩
  · rcases List.mem_append.mp hx with hx | hx
    · exact f.sub x hx
    · rw [List.mem_singleton.mp hx]
      exact hn
  · rcases Nat.lt_or_ge i order.length with c | c
    · rw [List.getElem?_append_left c] at hx
      rw [List.take_append_of_le_length (Nat.le_of_lt c)]
      exact f.pre i x hx o ho hs
    · rw [List.getElem?_append_right c] at hx
      have ei : i - order.length = 0 := by
        rcases Nat.eq_zero_or_pos (i - order.length) with z | z
        · exact z
        · rw [List.getElem?_eq_none (by simp; omega)] at hx
          cases hx
      rw [ei] at hx
      cases hx
      rw [show i = order.length by omega, List.take_left]
      exact hw o ho hs
/-- what stands in such an order is in no knot -/
theorem FreeO.free {ns order : List Str} (f : FreeO W ns order) {S : List Str} (hs : ∀ n ∈ S, n ∈ ns) (hS : ∀ n ∈ S, ∃ o ∈ W n, o ∈ S) : ∀ (k : Nat) (i : Nat), i < k → ∀ n, order[i]? = some n → n ∉ S := by
  intro k
  induction k with
  | zero => intro i hi; exact absurd hi (Nat.not_lt_zero _)
  | succ k ih =>
    intro i hi n hn hm
    obtain ⟨o, ho, hoS⟩ := hS n hm
    have ht := f.pre i n hn o ho (hs o hoS)
    rw [List.mem_take_iff_getElem] at ht
    obtain ⟨j, hj, e⟩ := ht
    refine ih j (by omega) o ?_ hoS
    rw [← e]
    exact List.getElem?_eq_getElem (by omega)
theorem FreeO.no {ns order : List Str} (f : FreeO W ns order) (h : ∀ n ∈ ns, n ∈ order) : ¬ Knotted W ns := fun ⟨S, hne, hs, hS⟩ => by
  obtain ⟨n, hn⟩ := List.exists_mem_of_ne_nil S hne
  obtain ⟨i, hi, e⟩ := List.getElem_of_mem (h n (hs n hn))
  exact f.free hs hS (i + 1) i (Nat.lt_succ_self _) n (by rw [List.getElem?_eq_getElem hi, e]) hn
/-- one step of the law's own removal -/
def rstep (S : List Str) : List Str := S.filter fun n => (W n).any fun o => decide (o ∈ S)
def rsteps (W : Str → List Str) : Nat → List Str → List Str
  | 0, S => S
  | k + 1, S => rstep (W := W) (rsteps W k S)
theorem rsteps_sub {ns : List Str} : ∀ k, ∀ n ∈ rsteps W k ns, n ∈ ns
  | 0, n, h => h
  | k + 1, n, h => rsteps_sub k n (List.mem_filter.mp h).1
theorem rsteps_keep {ns S : List Str} (hs : ∀ n ∈ S, n ∈ ns) (hS : ∀ n ∈ S, ∃ o ∈ W n, o ∈ S) : ∀ k, ∀ n ∈ S, n ∈ rsteps W k ns
  | 0, n, h => hs n h
  | k + 1, n, h => by
    obtain ⟨o, ho, hoS⟩ := hS n h
    exact List.mem_filter.mpr ⟨rsteps_keep hs hS k n h, List.any_eq_true.mpr ⟨o, ho, decide_eq_true (rsteps_keep hs hS k o hoS)⟩⟩
theorem rsteps_len {ns : List Str} : ∀ k, rstep (W := W) (rsteps W k ns) = rsteps W k ns ∨ (rsteps W k ns).length + k ≤ ns.length
  | 0 => .inr (Nat.le_refl _)
  | k + 1 => by
    rcases rsteps_len (ns := ns) k with e | e
    · refine .inl ?_
      show rstep (W := W) (rstep (W := W) (rsteps W k ns)) = rstep (W := W) (rsteps W k ns)
      rw [e, e]
    · by_cases c : (rsteps W (k + 1) ns).length < (rsteps W k ns).length
      · exact .inr (by omega)
      · refine .inl ?_
        have l : (rstep (W := W) (rsteps W k ns)).length = (rsteps W k ns).length := by
          have := List.length_filter_le (fun n => (W n).any fun o => decide (o ∈ rsteps W k ns)) (rsteps W k ns)
          have c' : ¬ (rstep (W := W) (rsteps W k ns)).length < (rsteps W k ns).length := c
          unfold rstep at c' ⊢
          omega
        have e2 : rstep (W := W) (rsteps W k ns) = rsteps W k ns := List.filter_eq_self.mpr (List.length_filter_eq_length_iff.mp l)
        show rstep (W := W) (rstep (W := W) (rsteps W k ns)) = rstep (W := W) (rsteps W k ns)
        rw [e2, e2]
theorem rsteps_knot {ns : List Str} : rsteps W ns.length ns = [] ↔ ¬ Knotted W ns := by
  refine ⟨fun e ⟨S, hne, hs, hS⟩ => ?_, fun h => ?_⟩
  · obtain ⟨n, hn⟩ := List.exists_mem_of_ne_nil S hne
    have := rsteps_keep hs hS ns.length n hn
    rw [e] at this
    cases this
  · rcases rsteps_len (W := W) (ns := ns) ns.length with e | e
    · rcases Classical.em (rsteps W ns.length ns = []) with c | c
      · exact c
      · refine absurd ⟨_, c, fun n hn => rsteps_sub _ n hn, fun n hn => ?_⟩ h
        rw [← e] at hn
        obtain ⟨o, ho, z⟩ := List.any_eq_true.mp (List.mem_filter.mp hn).2
        exact ⟨o, ho, of_decide_eq_true z⟩
    · exact List.length_eq_zero_iff.mp (by omega)
/-- a trail of those that wait, each for the next -/
structure Trail (W : Str → List Str) (ns t : List Str) (n : Str) : Prop where
  nd : t.Nodup
  sub : ∀ x ∈ t, x ∈ ns
  nx : n ∈ ns
  step : ∀ i x y, t[i]? = some x → (t ++ [n])[i + 1]? = some y → y ∈ W x
theorem Trail.start {ns : List Str} {n : Str} (h : n ∈ ns) : Trail W ns [] n := ⟨List.nodup_nil, (fun x h => nomatch h), h, fun i x y h => by simp at h⟩
theorem Trail.more {ns t : List Str} {n m : Str} (h : Trail W ns t n) (hn : n ∉ t) (hm : m ∈ ns) (hw : m ∈ W n) : Trail W ns (t ++ [n]) m := by
  refine ⟨?_, fun x hx => ?_, hm, fun i x y hx hy => ?_⟩
  · rw [List.nodup_append]
    exact ⟨h.nd, List.nodup_cons.mpr ⟨by simp, List.nodup_nil⟩, fun a ha b hb e => hn (by rw [← List.mem_singleton.mp hb, ← e]; exact ha)⟩
  · rcases List.mem_append.mp hx with hx | hx
    · exact h.sub x hx
    · rw [List.mem_singleton.mp hx]
      exact h.nx
  · rcases Nat.lt_or_ge i t.length with c | c
    · rw [List.getElem?_append_left c] at hx
      rw [List.getElem?_append_left (by rw [List.length_append]; show i + 1 < t.length + 1; omega)] at hy
      exact h.step i x y hx hy
    · have hi : i < (t ++ [n]).length := (List.getElem?_eq_some_iff.mp hx).1
      rw [List.length_append] at hi
      have ei : i = t.length := by
        have : i < t.length + 1 := hi
        omega
      subst ei
      rw [List.getElem?_append_right (Nat.le_refl _), Nat.sub_self] at hx
      cases hx
      rw [List.getElem?_append_right (by rw [List.length_append]; exact Nat.le_refl _), List.length_append, show t.length + 1 - (t.length + [n].length) = 0 from Nat.sub_self _] at hy
      cases hy
      exact hw
theorem Trail.ring {ns t : List Str} {n : Str} (h : Trail W ns t n) {j : Nat} (hj : t[j]? = some n) (self : n ∉ W n) : IsRing W ns (t.drop j) := by
  have hlt : j < t.length := (List.getElem?_eq_some_iff.mp hj).1
  have key : ∀ i x, (t.drop j)[i]? = some x → ∃ o, (t.drop j)[(i + 1) % (t.drop j).length]? = some o ∧ o ∈ W x := fun i x hx => by
    rw [List.getElem?_drop] at hx
    have hi : j + i < t.length := (List.getElem?_eq_some_iff.mp hx).1
    rw [List.length_drop]
    by_cases c : j + i + 1 < t.length
    · rw [Nat.mod_eq_of_lt (by omega)]
      refine ⟨t[j + i + 1], ?_, h.step (j + i) x _ hx ?_⟩
      · rw [List.getElem?_drop, ← Nat.add_assoc]
        exact List.getElem?_eq_getElem c
      · rw [List.getElem?_append_left c]
        exact List.getElem?_eq_getElem c
    · have e : i + 1 = t.length - j := by omega
      rw [e, Nat.mod_self]
      refine ⟨n, ?_, h.step (j + i) x n hx ?_⟩
      · rw [List.getElem?_drop]
        exact hj
      · rw [show j + i + 1 = t.length by omega, List.getElem?_append_right (Nat.le_refl _), Nat.sub_self]
        rfl
  refine ⟨?_, List.Nodup.sublist (List.drop_sublist ..) h.nd, fun x hx => h.sub x (List.mem_of_mem_drop hx), key⟩
  rcases Nat.lt_or_ge 1 (t.drop j).length with c | c
  · exact c
  · have l : (t.drop j).length = 1 := by
      rw [List.length_drop] at c ⊢
      omega
    obtain ⟨o, ho, hw⟩ := key 0 n (by rw [List.getElem?_drop]; exact hj)
    rw [l, Nat.mod_self, List.getElem?_drop] at ho
    have : o = n := Option.some.inj (ho.symm.trans hj)
    rw [this] at hw
    exact absurd hw self
end
end UT
/-! own layer: dicts whose keys are tuples: comprehensions (after the library's rule for plain keys), sorted -/
namespace UD
open PySem PySem.Spec PyProof.Rows L2 UW UP
section
variable {X : Cx}
/-- d[k] = v, k a tuple, as a comprehension does it -/
theorem put_tup {pins : List (Addr × Obj)} {σ : L2.St} {H : Hp} {s : Shared} {E : Value → Shared → Prop} {D b : Addr} {kvs : List (List Key × V)} {k : List Key} {v : V} {r : Value} {Q : Unit → Shared → Prop}
    (hu : X.A.units + 1 < cLine) (I : L2.Inv X pins σ H s) (hD : H D = some (.dT kvs)) (hb : H b = some (.tup (k.map kV))) (hz : kvs.length < sizeLine) (rv : RelV v r)
    (h : ∀ s', L2.Inv X pins σ (upd H D (.dT (putK kvs k v))) s' → Q () s') : wpAny (model X.prog X.w) X.A (dictSet D (.ref b) r) Q E s := by
  obtain ⟨z, nsys, xs, rel, dd⟩ := dt_of I.hok hD
  have few : (putK kvs k v).length ≤ sizeLine := by
    have := length_putK kvs k v
    omega
  refine wpAny_dictSet_heap (hsz := by rw [← Paired.length rel]; exact z) (show X.A.units < cLine by omega) (key_of I.hok hb) dd fun h2 dd2 same => h _ ?_
  obtain ⟨o, es, ep, e1, e2, e3, e4, _, e5⟩ := dd2
  refine d_write I (by rw [hD]; exact True.intro) same ⟨o, e1⟩ ⟨few, nsys, _, (rel.put k hb rv).keeps fun c ys ec => ?_, o, es, ep, e1, e2, e3, e4, e5⟩
  rw [upd_ne (ne_of ec hD (fun q => nomatch q))]
  exact ec
/-- {k: v for ..}, the keys tuples: D the new dict -/
def tDt (wi : TI) (g : TG) (tt : TT) (tk tv : TE) (vs : List Nat) : TE := fun σ H Q => wi σ H fun J H1 => ∀ D, H1 D = none → ∃ W : Nat → Nat → Hp → Prop, (∃ m, W 0 m (upd H1 D (.dT []))) ∧ ∀ i m H, W i m H →
  (J.stop i H ∧ Q (.ref D) H) ∨ (J.go i H ∧ ∃ Nx : Hp → Prop, (∀ H', Nx H' → ∃ m', m' < m ∧ W (i + 1) m' H') ∧ ∀ x H', J.yld i H x H' → g x (wipe σ vs) H' fun σ2 H2 => wipe σ2 vs = wipe σ vs ∧ tt σ2 H2 fun c H3 =>
    if c = true then tk σ2 H3 fun y H4 => tv σ2 H4 fun z H5 => ∃ kvs k b, y = .ref b ∧ H5 b = some (.tup (k.map kV)) ∧ H5 D = some (.dT kvs) ∧ kvs.length < sizeLine ∧ Nx (upd H5 D (.dT (putK kvs k z))) else Nx H3)
theorem dt_core {pins : List (Addr × Obj)} {s : Shared} {σ : L2.St} {H : Hp} {Q : VK} {kx vx tg iter : Expr} {ifs : List Expr} {scope : Scope} {own : List (Str × Nat)} {pos pos' : Pos} {wi : TI} {g : TG} {tt : TT} {tk tv : TE} {use : Option (Value → Sem Unit)} {Qf : Value → Shared → Prop}
    (hu : X.A.units + 1 < cLine) (hc : X.calm = true) (hN : X.N.Nodup) (I : L2.Inv X pins σ H s) (hi : PI X tg iter wi) (ok : BlkOk X.N X.env.scope scope own)
    (hg : ∀ s H C cl fp, PG (X.blk s H scope (compEnvC scope cl C X.env) fp) tg g) (ht : ∀ s H C cl fp, PTs (X.blk s H scope (compEnvC scope cl C X.env) fp) ifs tt)
    (hk : ∀ s H C cl fp, PE (X.blk s H scope (compEnvC scope cl C X.env) fp) kx tk) (hv : ∀ s H C cl fp, PE (X.blk s H scope (compEnvC scope cl C X.env) fp) vx tv)
    (hs : ∀ x, foldedSetIterable iter X.env x = pure x) (h : tDt wi g tt tk tv (own.map (·.2)) σ H Q)
    (fin : ∀ D C s' m H', L2.Inv X pins σ H' s' → Q (.ref D) H' → s'.heap.Ns C m → FpOk X pins H' C → compPost (model X.prog X.w) X.A X.xe use Qf (.ref D) C (.ok .next) s') :
    wpAny (model X.prog X.w) X.A (comprehension (.DictComp kx vx [⟨tg, iter, ifs, 0⟩] scope pos) scope X.env pos' newDict false (eval iter X.env) use) Qf X.xe s := by
  have cells : ∀ y ∈ scope.names, y.2 = .free → ∃ c, X.env.cells.lookup y.1 = some c := fun y hy e => (ok.free y hy e).elim (fun q => I.ok.has _ (.inl q)) fun q => I.ok.has _ (.inr q)
  refine wpAny_comprehension_free (use := use) rfl hs (closure_ok cells) ok.kind (fun y hy e => (ok.uniq y hy).trans (congrArg some e)) (thn (hi.run pins s σ H _ I h) fun _ _ q1 => thn q1 fun _ s2 q2 => ?_)
  obtain ⟨it, fp, tn, J, H2, rfl, I2, T, st2, f2, walk⟩ := q2
  refine wpAny_newObj_type (newEnv_comp ?_)
  obtain ⟨D, eD⟩ : ∃ D, s2.heap.objs.size = D := ⟨_, rfl⟩
  have freeD : H2 D = none := I2.hok.fresh (Nat.le_of_eq eD)
  obtain ⟨W, ⟨m0, w0⟩, turn⟩ := walk D freeD
  obtain ⟨z3, e3⟩ : ∃ z3 : Shared, { s2 with heap := s2.heap.push { cls := .type "dict", data := .dict #[] } } = z3 := ⟨_, rfl⟩
  have heap3 : z3.heap = s2.heap.push { cls := .type "dict", data := .dict #[] } := by rw [← e3]
  obtain ⟨H3, eH3⟩ : ∃ H3, upd H2 D (.dT []) = H3 := ⟨_, rfl⟩
  have I3 : L2.Inv X pins σ H3 z3 := by
    rw [← e3, ← eH3]
    refine I2.laid (t' := s2.toks) (fun _ _ e => Heap.get?_push_of_some _ e) (Nat.le_of_eq eD) ?_
    rw [← eD]
    exact dt_empty s2.heap I2.big
  have lt : ∀ c ∈ fp, c < s2.heap.objs.size := fun c hc => let ⟨_, e, _⟩ := T.obj _ _ st2 c hc; Heap.lt_size e
  have f3 : ∀ c ∈ fp, FpOk X pins H3 c ∧ c < z3.heap.objs.size := fun c hc => by
    refine ⟨⟨?_, (f2 c hc).2⟩, ?_⟩
    · rw [← eH3, upd_ne (by rw [← eD]; exact Nat.ne_of_lt (lt c hc))]
      exact (f2 c hc).1
    · rw [heap3, Heap.size_push]
      exact Nat.lt_succ_of_lt (lt c hc)
  have st3 : tn 0 z3.heap := T.keep _ _ _ st2 fun _ _ _ e => by rw [heap3]; exact Heap.get?_push_of_some _ e
  have I4 := block_start I3 ok hN f3
  obtain ⟨cl, ecl⟩ : ∃ cl, cellsFrom (z3.heap.objs.size + 1) scope.names (cloFrom X.env.cells scope.names []) = cl := ⟨_, rfl⟩
  rw [ecl] at I4
  have pg := hg z3 H3 z3.heap.objs.size cl fp
  have pt := ht z3 H3 z3.heap.objs.size cl fp
  have pk := hk z3 H3 z3.heap.objs.size cl fp
  have pv := hv z3 H3 z3.heap.objs.size cl fp
  have free3 : ∀ c ∈ fp, H3 c = none := fun c hc => (f3 c hc).1.1
  rw [eH3] at w0
  rw [e3]
  show codeAny _ _ (.compStart (.DictComp kx vx [⟨tg, iter, ifs, 0⟩] scope pos) 0 (.ref it) (.ref s2.heap.objs.size) (compEnvC scope (cellsFrom (z3.heap.objs.size + 1) scope.names (cloFrom X.env.cells scope.names [])) z3.heap.objs.size X.env)) (compPost (model X.prog X.w) X.A X.xe use Qf (.ref s2.heap.objs.size) z3.heap.objs.size) { z3 with heap := pushCells (z3.heap.push { cls := .type "dict", data := .dict #[] }) scope.names }
  rw [ecl, eD]
  obtain ⟨ce, ece⟩ : ∃ ce, compEnvC scope cl z3.heap.objs.size X.env = ce := ⟨_, rfl⟩
  rw [ece] at I4 pg pt pk pv ⊢
  have loc : ce.locals = z3.heap.objs.size := by rw [← ece]; rfl
  obtain ⟨z4, e4⟩ : ∃ z4 : Shared, { z3 with heap := pushCells (z3.heap.push { cls := .type "dict", data := .dict #[] }) scope.names } = z4 := ⟨_, rfl⟩
  rw [e4] at I4 ⊢
  have st4 : tn 0 z4.heap := T.keep _ _ _ st3 fun _ _ _ e => by rw [← e4]; exact pushCells_keeps _ _ _ _ (Heap.get?_push_of_some _ e)
  have fpok : ∀ {τ : L2.St} {G : Hp} {t : Shared}, L2.Inv (X.blk z3 H3 scope ce fp) [] τ G t → (∀ c ∈ fp, G c = none) → ∀ c ∈ fp, FpOk (X.blk z3 H3 scope ce fp) [] G c := fun {τ G t} J hn c hc =>
    ⟨hn c hc, (J.ok.exf c hc).1, J.ok.exfs c hc, .inl hc, fun x a e => (J.ok.exf c hc).2 x a e, fun p hp => absurd (show p ∈ ([] : List (Addr × Obj)) ++ [] from hp) (by simp)⟩
  have loop : codeAny (model X.prog X.w) X.A (.compLoop (.DictComp kx vx [⟨tg, iter, ifs, 0⟩] scope pos) 0 (.ref it) (.ref D) ce) (compPost (model X.prog X.w) X.A X.xe use Qf (.ref D) z3.heap.objs.size) z4 := by
    refine compLoop_anyD (fun n t => ∃ i G, L2.Inv (X.blk z3 H3 scope ce fp) [] (wipe σ (own.map (·.2))) G t ∧ tn i t.heap ∧ (∀ c ∈ fp, G c = none) ∧ W i n G) ?_ m0 ⟨0, H3, I4, st4, free3, w0⟩
    rintro n t5 ⟨i, G5, J5, k5, n5, w5⟩
    rcases turn i n G5 w5 with ⟨stop, q⟩ | ⟨go, Nx, more, step⟩
    · refine thnF (T.done (X.blk z3 H3 scope ce fp) rfl rfl rfl hc i [] t5 _ G5 (fun _ _ => False) J5 (fpok J5 n5) k5 stop) fun r t6 ⟨er, J6⟩ => ?_
      subst er
      have back : L2.Inv X pins σ G5 t6 := I3.call' (ch := fp) J6.os J6.base J6.hok J6.bare fun c hc => let f := (f3 c hc).1.2; ⟨f.2.2.1, f.1, f.2.2.2.1, f.2.2.2.2⟩
      obtain ⟨m, ns, _⟩ := J6.loc
      have ns2 : t6.heap.Ns z3.heap.objs.size m := loc ▸ ns
      have gone : G5 z3.heap.objs.size = none := loc ▸ J6.free
      exact fin D z3.heap.objs.size t6 m G5 back q ns2 (I3.fpOk (Nat.le_refl _) gone)
    · refine thnF (T.item (X.blk z3 H3 scope ce fp) rfl rfl rfl hc i [] t5 _ G5 (fun _ _ => False) J5 (fpok J5 n5) k5 go) fun r t6 ⟨u, er, q6⟩ => ?_
      subst er
      refine thnF q6 fun _ t7 ⟨x, G7, J7, r7, y7, k7, n7⟩ => ?_
      refine thnF (pg.run _ t7 _ G7 x u _ (J7.pinned (fpok J7 n7) (T.obj _ _ k7)) r7 (step x G7 y7)) fun _ t8 ⟨τ, G8, J8, hw, q8⟩ => ?_
      refine thnF (pt.run _ t8 τ G8 _ J8 q8) fun c t9 ⟨G9, J9, q9⟩ => ?_
      have close : ∀ {t : Shared} {G : Hp}, L2.Inv (X.blk z3 H3 scope ce fp) ([] ++ pinsAt fp t7.heap) τ G t → Nx G → ∃ m, m < n ∧ ∃ i G, L2.Inv (X.blk z3 H3 scope ce fp) [] (wipe σ (own.map (·.2))) G t ∧ tn i t.heap ∧ (∀ c ∈ fp, G c = none) ∧ W i m G := fun {t G} J nx => by
        obtain ⟨m', lt', w'⟩ := more G nx
        have pin : ∀ c ∈ fp, ∀ o, t7.heap.get? c = some o → t.heap.get? c = some o ∧ G c = none := fun c hc o e =>
          let p := J.pin (c, o) (List.mem_append_right _ (List.mem_append_right _ (mem_pinsAt hc e)))
          ⟨p.1, p.2.1⟩
        refine ⟨m', lt', i + 1, G, (J.unpinned (pins := [])).weak (by rw [← hw, wipe_length]) (fun j v e => ?_), T.keep _ _ _ k7 fun c hc o e => (pin c hc o e).1, fun c hc => ?_, w'⟩
        · rw [← hw] at e
          exact (wipe_some e).1
        · obtain ⟨o, e, _⟩ := T.obj _ _ k7 c hc
          exact (pin c hc o e).2
      cases c with
      | false =>
        simp only [Bool.false_eq_true, if_false] at q9 ⊢
        exact close J9 q9
      | true =>
        simp only [if_true] at q9 ⊢
        refine thnF (pk.run _ t9 τ G9 _ J9 q9) fun ku t10 ⟨yk, G10, J10, r10, q10⟩ => ?_
        refine thnF (pv.run _ t10 τ G10 _ J10 q10) fun vu t11 ⟨yv, G11, J11, r11, kvs, k, b, ek, hb, hD, few, nx⟩ => ?_
        subst ek
        cases (show ku = Value.ref b from r10)
        exact put_tup (X := X.blk z3 H3 scope ce fp) hu J11 hD hb few r11 fun t12 J12 => close J12 nx
  exact codeAny_compStart_dict loop (T.self X.A 0 _ _ _ st4 loop)
/-- y = {k: v for ..}, the keys tuples, y a plain local -/
theorem ps_setDt {i : Nat} {y : Str} {py pos spos : Pos} {kx vx tg iter : Expr} {ifs : List Expr} {scope : Scope} {own : List (Str × Nat)} {wi : TI} {g : TG} {tt : TT} {tk tv : TE}
    (hu : X.A.units + 1 < cLine) (hc : X.calm = true) (hN : X.N.Nodup) (hy : X.N[i]? = some y) (hyl : X.env.scope.names.lookup y = some .local) (hsw : swapsWith (.DictComp kx vx [⟨tg, iter, ifs, 0⟩] scope pos) (some (.Name y py)) spos.line X.env = pure true)
    (hi : PI X tg iter wi) (ok : BlkOk X.N X.env.scope scope own)
    (hg : ∀ s H C cl fp, PG (X.blk s H scope (compEnvC scope cl C X.env) fp) tg g) (ht : ∀ s H C cl fp, PTs (X.blk s H scope (compEnvC scope cl C X.env) fp) ifs tt)
    (hk : ∀ s H C cl fp, PE (X.blk s H scope (compEnvC scope cl C X.env) fp) kx tk) (hv : ∀ s H C cl fp, PE (X.blk s H scope (compEnvC scope cl C X.env) fp) vx tv)
    (hs : ∀ x, foldedSetIterable iter X.env x = pure x := by intro _; rfl) :
    PS X (.Assign [.Name y py] (.DictComp kx vx [⟨tg, iter, ifs, 0⟩] scope pos) spos) (tAsg (tDt wi g tt tk tv (own.map (·.2))) (gName i)) := by
  refine ⟨fun pins s σ H D I h => ?_⟩
  rw [exec_Assign_Name_used _ _ _ _ hsw]
  refine wpAny_bind (wpAny_standAt (wpAny_bind (wpAny_bind (m := comprehension _ _ _ _ newDict false (eval iter X.env) (some (assign (.Name y py) X.env))) (thn ?_ fun _ z q => wpAny_pure (wpAny_pure q)))))
  refine dt_core (Qf := fun _ z => SP X pins D .next z) hu hc hN I hi ok hg ht hk hv hs (Q := fun x H1 => gName i x σ H1 D.nx) h fun L C z m H2 I2 q ns fp => ?_
  show wpAny _ _ (assign (.Name y py) X.env (.ref L)) _ _ _
  refine wpAny_assign_Name (store_ok2 (v := V.ref L) I2 hN hy (.inl hyl) rfl (fun z2 J ⟨a, sb, ha⟩ => ?_) (.inr hyl))
  obtain ⟨f0, f1, f2, f3, f4, f5⟩ := fp
  have ne : C ≠ a := ha.elim (fun e => e ▸ f1) fun e q => f4 y a e q.symm
  exact ⟨m, ns.sameBut sb ne, fun h3 sb3 => ⟨_, H2, J.turned (t' := z2.toks) (fun b o hb e => (sb3.2 b hb).trans e) f0 f1 f3 f4 f5, q⟩⟩
end
end UD

namespace UD
open PySem PySem.Spec PyProof.Rows L2 UW UP
/-! ### the order of pairs of texts -/
def ltP (p q : Str × Str) : Bool := if p.1 = q.1 then ltS p.2 q.2 else ltS p.1 q.1
def leP (p q : Str × Str) : Bool := !ltP q p
theorem ltS_asy {x y : Str} (h : ltS x y = true) : ltS y x = false := by
  cases q : ltS y x
  · rfl
  · have := ltS_tr h q
    rw [ltS_irr] at this
    cases this
theorem leP_iff (p q : Str × Str) : leP p q = true ↔ ltS p.1 q.1 = true ∨ (p.1 = q.1 ∧ leS p.2 q.2 = true) := by
  unfold leP ltP
  by_cases e : q.1 = p.1
  · rw [if_pos e]
    refine ⟨fun h => .inr ⟨e.symm, h⟩, fun h => ?_⟩
    rcases h with h | h
    · rw [e, ltS_irr] at h
      cases h
    · exact h.2
  · rw [if_neg e]
    refine ⟨fun h => .inl (ltS_or ?_ e), fun h => ?_⟩
    · rw [Bool.not_eq_true'] at h
      exact h
    · rcases h with h | h
      · rw [ltS_asy h]
        rfl
      · exact absurd h.1.symm e
theorem leP_tr {p q r : Str × Str} (h : leP p q = true) (g : leP q r = true) : leP p r = true := by
  rw [leP_iff] at *
  rcases h with h | ⟨h, h2⟩
  · rcases g with g | ⟨g, _⟩
    · exact .inl (ltS_tr h g)
    · rw [← g]
      exact .inl h
  · rcases g with g | ⟨g, g2⟩
    · rw [h]
      exact .inl g
    · exact .inr ⟨h.trans g, leS_tr h2 g2⟩
theorem leP_anti {p q : Str × Str} (h : leP p q = true) (g : leP q p = true) : p = q := by
  rw [leP_iff] at *
  rcases h with h | ⟨h, h2⟩
  · rcases g with g | ⟨g, _⟩
    · rw [ltS_asy h] at g
      cases g
    · rw [g, ltS_irr] at h
      cases h
  · rcases g with g | ⟨_, g2⟩
    · rw [h, ltS_irr] at g
      cases g
    · exact Prod.ext h (leS_anti h2 g2)
theorem leP_tot (p q : Str × Str) : (leP p q || leP q p) = true := by
  rw [Bool.or_eq_true, leP_iff, leP_iff]
  by_cases e : p.1 = q.1
  · rcases leS_tot p.2 q.2 with h | h
    · exact .inl (.inr ⟨e, h⟩)
    · exact .inr (.inr ⟨e.symm, h⟩)
  · cases h : ltS p.1 q.1
    · exact .inr (.inl (ltS_or h e))
    · exact .inl (.inl rfl)
/-- sorted(pairs) -/
def srtP (ds : List (Str × Str)) : List (Str × Str) := ds.mergeSort leP
theorem srtP_perm (ds : List (Str × Str)) : (srtP ds).Perm ds := List.mergeSort_perm ..
theorem srtP_pw (ds : List (Str × Str)) : (srtP ds).Pairwise fun x y => leP x y = true := List.pairwise_mergeSort (le := leP) (fun a b c h g => leP_tr h g) leP_tot ds
theorem srtP_uniq {ds es : List (Str × Str)} (p : es.Perm ds) (h : es.Pairwise fun x y => leP x y = true) : es = srtP ds := pw_uniq (fun _ _ a b => leP_anti a b) (p.trans (srtP_perm ds).symm) h (srtP_pw ds)
theorem srtP_congr {ds es : List (Str × Str)} (p : es.Perm ds) : srtP es = srtP ds := srtP_uniq ((srtP_perm es).trans p) (srtP_pw es)
theorem srtP_mem {d : Str × Str} {ds : List (Str × Str)} : d ∈ srtP ds ↔ d ∈ ds := (srtP_perm ds).mem_iff
theorem srtP_len (ds : List (Str × Str)) : (srtP ds).length = ds.length := (srtP_perm ds).length_eq
theorem le_data (a b : Str × Str) : PySem.W.dataLe false enc2 a b = leP a b := by
  show (!PySem.W.dataLt (enc2 b) (enc2 a)) = leP a b
  have e : PySem.W.dataLt (enc2 b) (enc2 a) = PySem.W.DatumOrd.lt b a := PySem.W.DatumOrd.lt_eq b a
  rw [e]
  rfl
/-! ### lists of pairs that stand by themselves -/
inductive PrH (H : Hp) : List V → List (Str × Str) → Prop
  | nil : PrH H [] []
  | cons {t : Addr} {d : Str × Str} {xs : List V} {ds : List (Str × Str)} : H t = some (.tup [.str d.1, .str d.2]) → PrH H xs ds → PrH H (.ref t :: xs) (d :: ds)
section
variable {K : PySem.W.Frag} {H H' : Hp} {xs ys : List V} {ds es : List (Str × Str)}
theorem PrH.prs (h : PrH H xs ds) : Prs K H xs ds := by
  induction h with
  | nil => exact .nil
  | cons a _ ih => exact .cons (SqT.of a) ih
theorem PrH.same (h : PrH H xs ds) (s : Same H H') : PrH H' xs ds := by
  induction h with
  | nil => exact .nil
  | cons a _ ih => exact .cons (s _ _ a) ih
theorem PrH.keep {q : Addr} (h : PrH H xs ds) (k : Kp q H H') (n : NotTup H q) : PrH H' xs ds := by
  induction h with
  | nil => exact .nil
  | cons a _ ih => exact .cons (k _ _ a (n.ne a)) ih
theorem PrH.len (h : PrH H xs ds) : xs.length = ds.length := (h.prs (K := default)).len
theorem PrH.app (h : PrH H xs ds) (g : PrH H ys es) : PrH H (xs ++ ys) (ds ++ es) := by
  induction h with
  | nil => exact g
  | cons a _ ih => exact .cons a ih
theorem PrH.get {i : Nat} {x : V} (h : PrH H xs ds) (e : xs[i]? = some x) : ∃ t d, x = .ref t ∧ ds[i]? = some d ∧ H t = some (.tup [.str d.1, .str d.2]) := by
  induction h generalizing i with
  | nil => simp at e
  | @cons t d _ _ a _ ih =>
    cases i with
    | zero =>
      cases e
      exact ⟨t, d, rfl, rfl, a⟩
    | succ i => exact ih e
def RH (H : Hp) (u : Value) (d : Str × Str) : Prop := ∃ t, u = .ref t ∧ H t = some (.tup [.str d.1, .str d.2])
theorem PrH.each (h : PrH H xs ds) {us : List Value} (r : Vals xs us) : PySem.W.EachIs (RH H) us ds := by
  induction h generalizing us with
  | nil =>
    cases r
    exact .nil
  | cons a _ ih =>
    cases r with
    | cons r1 r2 => exact .cons ⟨_, r1, a⟩ (ih r2)
theorem each_prH {us : List Value} (h : PySem.W.EachIs (RH H) us ds) : ∃ xs, Vals xs us ∧ PrH H xs ds := by
  induction h with
  | nil => exact ⟨[], .nil, .nil⟩
  | cons a _ ih =>
    obtain ⟨xs, r, p⟩ := ih
    obtain ⟨t, rfl, ht⟩ := a
    exact ⟨.ref t :: xs, .cons rfl r, .cons ht p⟩
end
section
variable {X : Cx}
/-- sorted(xs), xs a list of pairs of texts -/
def rSortP (K : PySem.W.Frag) : List V → Hp → VK → Prop := fun vs H Q => ∃ (a : Addr) (xs : List V) (ds : List (Str × Str)), vs = [.ref a] ∧ SqL K H a xs ∧ PrH H xs ds ∧ ds.length ≤ 1000 ∧
  ∀ p ys, H p = none → PrH H ys (srtP ds) → Q (.ref p) (upd H p (.lst ys))
theorem each_reads {pins : List (Addr × Obj)} {σ : L2.St} {H : Hp} {s : Shared} (I : L2.Inv X pins σ H s) {xs : List V} {ds : List (Str × Str)} {us : List Value} (h : PrH H xs ds) (r : Vals xs us) : PySem.W.EachIs (fun v b => ∃ as, PySem.Reads s.heap v (enc2 b) as) us ds := by
  obtain ⟨as, hr⟩ := Dp.readsAll I (ds.map enc2) _ _ (h.prs (K := X.K)).dp r
  exact PySem.W.readsAll_each enc2 hr
theorem sort_eq (ds : List (Str × Str)) : ds.mergeSort (PySem.W.dataLe false enc2) = srtP ds := by
  have : PySem.W.dataLe false enc2 = leP := funext fun a => funext fun b => le_data a b
  rw [this]
  rfl
theorem depth2 (d : Str × Str) : PyData.depth (enc2 d) = 1 := by
  unfold enc2
  simp only [PyData.depth, PyData.depthAll, Nat.max_self]
theorem alike2 (ds : List (Str × Str)) : PySem.W.AllAlike (ds.map enc2) := PySem.W.AllAlike.of fun a b => PySem.W.DatumOrd.alike a b
theorem sortable2 (ds : List (Str × Str)) : PySem.W.Sortable (ds.map enc2) := PySem.W.Sortable.tuples fun b => ⟨_, _, rfl⟩
theorem cr_sortP (hu : X.A.units + 64 < cLine) : CallR X (.builtin "sorted") (rSortP X.K) := by
  intro pins s σ H vs us Q I r h
  obtain ⟨a, xs, ds, rfl, hs, hp, few, q⟩ := h
  obtain ⟨its, rv, hl, _⟩ := I.list hs
  rw [Vals.ref1 r]
  refine PySem.W.sorted_data (R := RH H) (enc := enc2) hl.isList (hp.each rv) (each_reads I hp rv) (alike2 ds) (sortable2 ds) (Nat.le_of_lt (small1000 few)) (fun b _ => by rw [depth2]; omega) fun out hlen ho => ?_
  rw [sort_eq] at ho
  obtain ⟨ys, ry, py⟩ := each_prH ho
  obtain ⟨ep, he⟩ := PyProof.Rows.sortedAll_at s.heap its out.toArray
  refine ⟨.ref _, upd H (s.heap.objs.size + 1) (.lst ys), I.laid (t' := s.toks) (fun _ _ => PyProof.Rows.sortedAll_old) (Nat.le_succ _) ⟨?_, out, ep, ry, he⟩, rfl, q _ ys (I.hok.fresh (Nat.le_succ _)) py⟩
  rw [py.len, srtP_len]
  exact Nat.le_of_lt (small1000 few)
end
end UD

namespace UD
open PySem PySem.Spec PyProof.Rows L2 UW UP
theorem readsAll2 {h : Heap} {l : List Value} {x y : Str} {as : List Addr} (r : PySem.ReadsAll h l [.str x, .str y] as) : as = [] := by
  cases r with
  | cons r5 r6 =>
    cases r5
    cases r6 with
    | cons r7 r8 =>
      cases r7
      cases r8
      rfl
theorem reads2 {h : Heap} {v : Value} {d : Str × Str} {as : List Addr} (r : PySem.Reads h v (enc2 d) as) : as = [] := by
  unfold enc2 at r
  cases r with
  | tuple _ _ _ r4 => exact readsAll2 r4
def key2 (d : Str × Str) : List Key := [Sum.inr d.1, Sum.inr d.2]
theorem keys_prH {H : Hp} : ∀ {kvs : List (List Key × V)} {bs : List Addr} {ds : List (Str × Str)}, IsKeys H kvs bs → kvs.map (·.1) = ds.map key2 → PrH H (bs.map V.ref) ds
  | _, _, [], .nil, _ => .nil
  | _, _, d :: ds, .nil, e => by simp at e
  | _, _, [], .cons _ _, e => by simp at e
  | _, _, d :: ds, .cons h t, e => by
    rw [List.map_cons, List.map_cons] at e
    injection e with e1 e2
    rw [List.map_cons]
    refine .cons ?_ (keys_prH t e2)
    rw [e1] at h
    exact h
section
variable {X : Cx}
/-- sorted(d), the keys of d pairs of texts -/
def rSortDT : List V → Hp → VK → Prop := fun vs H Q => ∃ (a : Addr) (kvs : List (List Key × V)) (ds : List (Str × Str)), vs = [.ref a] ∧ Rd H a (.dT kvs) ∧ kvs.map (·.1) = ds.map key2 ∧ ds.length ≤ 1000 ∧
  ∀ p ys, H p = none → PrH H ys (srtP ds) → Q (.ref p) (upd H p (.lst ys))
theorem cr_sortDT (hc : X.calm = true) (hu : X.A.units + 64 < cLine) : CallR X (.builtin "sorted") rSortDT := by
  intro pins s σ H vs us Q I r h
  obtain ⟨a, kvs, ds, rfl, hd, hkeys, few, q⟩ := h
  rw [Vals.ref1 r]
  obtain ⟨_, nsys, ks, pr, o, es, ep, ho, hx, hdt, he, _⟩ := (show ObjOk X.prog X.w H s.heap a (.dT kvs) from hd.ok I.hok)
  have l1 : es.size = ks.length := size_of_entries he
  have l2 : kvs.length = ks.length := Paired.length pr
  have l3 : kvs.length = ds.length := by
    have := congrArg List.length hkeys
    rw [List.length_map, List.length_map] at this
    exact this
  have room : ds.length ≤ sizeLine := Nat.le_of_lt (small1000 few)
  refine Calls.call_function_entry PyProof.Rows.kind_sorted PyProof.Rows.plain_sorted PyProof.Rows.entry_sorted (PyProof.Rows.args_sorted1 _) ?_
  unfold Builtin.«sorted»
  refine wpAny_bind (m := checkCount "sorted" 1 1 _) (wpAny_pure ?_)
  refine wpAny_bind (PySem.W.kdu_collect (A := X.A.in1) (kdl_raw nsys hx hdt) (I.ok.hd hc) ho (by omega) fun h2 tk acc keep items => ?_)
  have hacc : acc.toList = (ks.map fun x => x.2.1).map Value.ref := by
    have len : acc.toList.length = ks.length := by
      rw [Array.length_toList, items.1]
      exact l1
    rw [List.map_map]
    refine List.ext_getElem? fun j => ?_
    rw [List.getElem?_map]
    rcases Nat.lt_or_ge j ks.length with c | c
    · have hj : acc.toList[j]? = some acc.toList[j] := List.getElem?_eq_getElem (by omega)
      obtain ⟨en, hen, hv⟩ := items.2 j _ (by rw [← Array.getElem?_toList]; exact hj)
      have qe := entry_at he j
      rw [hen, List.getElem?_eq_getElem c] at qe
      rw [hj, hv, List.getElem?_eq_getElem c, Option.some.inj qe]
      rfl
    · rw [List.getElem?_eq_none (by omega), List.getElem?_eq_none c]
      rfl
  have I1 : L2.Inv X pins σ H { s with heap := h2, toks := tk } := I.kept keep
  have pH := keys_prH (isKeys_of pr) hkeys
  have rv : Vals ((ks.map fun x => x.2.1).map V.ref) acc.toList := by
    rw [hacc]
    exact vals_refs _
  have alen : acc.toList.length = ds.length := by rw [← rv.length, pH.len]
  refine wpAny_bind (wpAny_newList ?_ (by rw [alen]; exact room))
  have here : (h2.push (seqObj "list" acc.toList.toArray 0)).get? h2.objs.size = some (seqObj "list" acc.toList.toArray 0) := Heap.get?_push_size _ rfl
  have reads : PySem.W.EachIs (fun v b => ∃ as, PySem.Reads (h2.push (seqObj "list" acc.toList.toArray 0)) v (enc2 b) as ∧ h2.objs.size ∉ as) acc.toList ds :=
    (each_reads I1 pH rv).mono fun v b ⟨as, rd⟩ => ⟨as, PyProof.Rows.Reads.keeps (fun _ _ e => Heap.get?_push_of_some _ e) rd, by rw [reads2 rd]; simp⟩
  refine wpAny_bind (wpAny_holding (PySem.W.list_sort_data (A := X.A.in1) (s := { s with heap := h2.push (seqObj "list" acc.toList.toArray 0), toks := tk }) (R := RH H) (enc := enc2) here (pH.each rv) reads (alike2 ds) (sortable2 ds) room (fun b _ => by rw [depth2]; show X.A.units + 1 + 1 + 1 < cLine; omega) fun out hlen hout => ?_))
  rw [sort_eq] at hout
  obtain ⟨ys, ry, py⟩ := each_prH hout
  obtain ⟨e2, at2⟩ := PyProof.Rows.sortedHeap_at (vs := acc.toList) (out := out.toArray) here
  refine wpAny_pure ⟨_, rfl, .ref h2.objs.size, upd H h2.objs.size (.lst ys), I1.laid (t' := tk) (fun b u e => ?_) (Nat.le_refl _) ⟨?_, out, e2, ry, at2⟩, rfl, q _ ys (I1.hok.fresh (Nat.le_refl _)) py⟩
  · have lt : b < h2.objs.size := Heap.lt_size e
    rw [PyProof.Rows.sortedHeap_old (Nat.ne_of_lt lt) (by rw [size_push']; exact Nat.lt_succ_of_lt lt)]
    exact Heap.get?_push_of_some _ e
  · rw [py.len, srtP_len]
    exact room
end
end UD

namespace UD
open PySem L2 UW UP
theorem NotTup.dT {H : Hp} {q : Addr} {kvs : List (List Key × V)} (h : H q = some (.dT kvs)) : NotTup H q := fun ys e => by rw [h] at e; cases e
/-- a comprehension with tuple keys, walked -/
theorem dt_it {J : It} {n : Nat} {G : Hp → Prop} {Y : Nat → Hp → V → Hp → Prop} (w : Walk J n G Y) {g : TG} {tt : TT} {tk tv : TE} {vs : List Nat} {σ : L2.St} {H1 : Hp} {D : Addr} {Qd : Hp → Prop} (Pv : Nat → Hp → Prop) (h0 : Pv 0 (upd H1 D (.dT []))) (hG : ∀ i H, i ≤ n → Pv i H → G H)
    (hs : ∀ i x H H', i < n → Pv i H → Y i H x H' → g x (wipe σ vs) H' fun σ2 H2 => wipe σ2 vs = wipe σ vs ∧ tt σ2 H2 fun c H3 =>
      if c = true then tk σ2 H3 fun y H4 => tv σ2 H4 fun z H5 => ∃ kvs k b, y = .ref b ∧ H5 b = some (.tup (k.map kV)) ∧ H5 D = some (.dT kvs) ∧ kvs.length < sizeLine ∧ Pv (i + 1) (upd H5 D (.dT (putK kvs k z))) else Pv (i + 1) H3)
    (hd : ∀ H, Pv n H → Qd H) :
    ∃ W : Nat → Nat → Hp → Prop, (∃ m, W 0 m (upd H1 D (.dT []))) ∧ ∀ i m H, W i m H →
      (J.stop i H ∧ Qd H) ∨ (J.go i H ∧ ∃ Nx : Hp → Prop, (∀ H', Nx H' → ∃ m', m' < m ∧ W (i + 1) m' H') ∧ ∀ x H', J.yld i H x H' → g x (wipe σ vs) H' fun σ2 H2 => wipe σ2 vs = wipe σ vs ∧ tt σ2 H2 fun c H3 =>
        if c = true then tk σ2 H3 fun y H4 => tv σ2 H4 fun z H5 => ∃ kvs k b, y = .ref b ∧ H5 b = some (.tup (k.map kV)) ∧ H5 D = some (.dT kvs) ∧ kvs.length < sizeLine ∧ Nx (upd H5 D (.dT (putK kvs k z))) else Nx H3) := by
  refine ⟨fun i m H => i ≤ n ∧ m = n - i ∧ Pv i H, ⟨n, Nat.zero_le _, rfl, h0⟩, fun i m H ⟨hi, e, p⟩ => ?_⟩
  subst e
  have gH := hG i H hi p
  rcases Nat.lt_or_eq_of_le hi with lt | e
  · exact .inr ⟨w.goes i H lt gH, Pv (i + 1), fun H' p' => ⟨n - (i + 1), by omega, lt, rfl, p'⟩, fun x H' y => hs i x H H' lt p (w.yields i H x H' lt gH y)⟩
  · subst e
    exact .inl ⟨w.stops H gH, hd H p⟩
theorem key2_inj {a b : Str × Str} (h : key2 a = key2 b) : a = b := by
  unfold key2 at h
  injection h with h1 h2
  injection h2 with h2 _
  exact Prod.ext (Sum.inr.inj h1) (Sum.inr.inj h2)
theorem key2_mem {d : Str × Str} {es : List (Str × Str)} : key2 d ∈ es.map key2 ↔ d ∈ es :=
  ⟨fun h => by obtain ⟨e, he, q⟩ := List.mem_map.mp h; rw [← key2_inj q]; exact he, fun h => List.mem_map.mpr ⟨d, h, rfl⟩⟩
/-- whether a pair is a key -/
theorem val2 {kvs : List (List Key × V)} {es : List (Str × Str)} (h : kvs.map (·.1) = es.map key2) (d : Str × Str) : (valV kvs (key2 d)).isSome = decide (d ∈ es) := by
  rw [← valV_any]
  by_cases c : d ∈ es
  · rw [decide_eq_true c, List.any_eq_true]
    have : key2 d ∈ kvs.map (·.1) := by
      rw [h]
      exact key2_mem.mpr c
    obtain ⟨p, hp, e⟩ := List.mem_map.mp this
    exact ⟨p, hp, decide_eq_true e⟩
  · rw [decide_eq_false c, Bool.eq_false_iff]
    intro z
    obtain ⟨p, hp, e⟩ := List.any_eq_true.mp z
    refine c (key2_mem.mp ?_)
    rw [← h, ← of_decide_eq_true e]
    exact List.mem_map.mpr ⟨p, hp, rfl⟩
theorem put2_new {kvs : List (List Key × V)} {es : List (Str × Str)} (h : kvs.map (·.1) = es.map key2) {d : Str × Str} (hd : d ∉ es) (v : V) : (putK kvs (key2 d) v).map (·.1) = (es ++ [d]).map key2 := by
  have e := val2 h d
  rw [decide_eq_false hd] at e
  rw [putK_new v (Option.not_isSome_iff_eq_none.mp (by rw [e]; exact Bool.false_ne_true)), List.map_append, List.map_append, h]
  rfl
theorem put2_old {kvs : List (List Key × V)} {es : List (Str × Str)} (h : kvs.map (·.1) = es.map key2) {d : Str × Str} (hd : d ∈ es) (v : V) : (putK kvs (key2 d) v).map (·.1) = es.map key2 := by
  have e := val2 h d
  rw [decide_eq_true hd, ← valV_any] at e
  unfold putK
  rw [if_pos e, List.map_map, ← h]
  refine List.map_congr_left fun p _ => ?_
  show (if p.1 = key2 d then (p.1, v) else p).1 = p.1
  split <;> rfl
theorem len2 {kvs : List (List Key × V)} {es : List (Str × Str)} (h : kvs.map (·.1) = es.map key2) : kvs.length = es.length := by
  have := congrArg List.length h
  rw [List.length_map, List.length_map] at this
  exact this
theorem snoc_nodup {α : Type} {l : List α} {x : α} (h : l.Nodup) (n : x ∉ l) : (l ++ [x]).Nodup := by
  rw [List.nodup_append]
  exact ⟨h, List.nodup_cons.mpr ⟨by simp, List.nodup_nil⟩, fun a ha b hb e => n (by rw [← List.mem_singleton.mp hb, ← e]; exact ha)⟩
end UD
/-! own layer: a def's promise where nothing is being shown (the guards are empty), the end of a law over it, repr of data -/
namespace UG
open PySem PySem.Spec PyProof.Rows L2
/-- what a def keeps, called where the guards are empty -/
structure FnG (P : Program) (w : World) (K : PySem.W.Frag) (mg : Str → Option Value) (base : Heap) (CX : CXT) (k : Nat) (f : Addr) (fd : FuncData) (ps : List Str) (sp : Sp) : Prop where
  count : ∀ vs H Q E, sp vs H Q E → vs.length = ps.length
  goes : ∀ (A : Around) (outer : List Env) (s : Shared) (H : Hp) (args : Args) (us : List Value) (vs : List V) (Q : VK) (E : XK), A.guards = some [] → Room k A → Env0 P w K mg base A outer s H →
    BindsTo s fd args (ps.zip us) → Vals vs us → sp vs H Q E → codeAny (model P w) A (.call (.ref f) args) (CR CX outer P w H s Q E) s
section
variable {P : Program} {w : World} {K : PySem.W.Frag} {mg : Str → Option Value} {base : Heap} {CX : CXT} {k : Nat} {f : Addr} {fd : FuncData} {N ps : List Str} {sp : Sp} {x qual : Str} {params : Arguments} {body : List Stmt} {scope : Scope} {dvs : List V} {kws : List (Str × V)}
theorem okG (F : FunD K x qual params body scope dvs kws f fd) (S : FnScope N ps scope) (count : ∀ vs H Q E, sp vs H Q E → vs.length = ps.length)
    (inner : ∀ (cdv : Value) (A : Around) (outer : List Env) (s : Shared) (H : Hp) (vs : List V) (Q : VK) (E : XK), A.guards = some [] → Room k (A.deeper (envOfC qual scope s.heap.objs.size f cdv)) → sp vs H Q E →
      ∃ t, PSs (cxOf CX P w K mg base N qual scope f cdv A outer s H E) body t ∧ t { nx := fun _ H' => Q .non H', rt := Q } (start N vs) H) : FnG P w K mg base CX (k + 1) f fd ps sp := by
  obtain ⟨oc, od, dV, kV, doc, pm, an, cdv, ct, osl, rfl, place, code, _, _⟩ := F.ex
  refine ⟨count, fun A outer s H args us vs Q E quiet room env bind vals good => ?_⟩
  obtain ⟨t, sound, holds⟩ := inner cdv A outer s H vs Q E quiet (room.deeper _) good
  have old : ∀ b o, base.get? b = some o → s.heap.get? b = some o := fun b o e => (env.bs b o e).1
  have kin := env.mod.kin.keeps old
  have slots : ∀ y ∈ ps.zip us, scope.names.lookup y.1 = some .local ∨ (scope.names.lookup y.1 = some .cell ∧ ((cellsFrom (s.heap.objs.size + 1) scope.names []).lookup y.1).isSome = true) := by
    intro y hy
    have := S.par y.1 (List.of_mem_zip (a := y.1) (b := y.2) hy).1
    exact this.imp id fun c => ⟨c, PySem.W.cellsFrom_some _ _ _ (.inl c)⟩
  apply codeAny_call_function room.depth (kin _ _ place) rfl S.co S.gen rfl (PySem.W.codeRec_of kin code)
  apply bind
  refine wpAny_newFunctionEnv_cells S.kind slots ?_
  rintro _ rfl s1 step
  have inv := inv_start (CX := CX) (E := E) S room.hd env (count _ _ _ _ good) vals step
  refine ⟨(env.mod.nolimit.keeps old).keeps step.toInCall.keep, codeAny_func (wpAny_mono (sound.run [] s1 (start N vs) H _ inv holds) ?_ fun _ _ z => z)⟩
  rintro (_ | _ | _ | u) s' out
  · obtain ⟨_, H', J, done⟩ := out
    exact ⟨.non, H', J.os, J.bare, J.base, J.hok, rfl, done⟩
  · exact out.elim fun _ ⟨_, _, no⟩ => no.elim
  · exact out.elim fun _ ⟨_, _, no⟩ => no.elim
  · obtain ⟨v, _, H', J, rel, done⟩ := out
    exact ⟨v, H', J.os, J.bare, J.base, J.hok, rel, done⟩
end
/-! ### a law's end -/
section
variable {P : Program} {w : World} {K : PySem.W.Frag} {mg mb : Str → Option Value} {CX : CXT} {k : Nat} {f a : Addr} {fd : FuncData} {y : Str} {sp : Sp} {s : Shared} {vs : List Value} {ns : List Int}
/-- the heap of the call: nothing, or the script alone, which stays -/
def Scr (H : Hp) (a : Addr) (vs : List Value) (ns : List Int) : Prop := ∀ b, H b = none ∨ (b = a ∧ H b = some (.frz { cls := .type "list", data := .seq vs.toArray } (.lst (ns.map V.int))))
theorem end_at {H : Hp} (only : Scr H a vs ns) (kin : K.In s.heap) (apart : H a ≠ none → K.lookup a = none) (glob : s.heap.Ns mainGlobals mg) (bn : s.heap.Ns builtinsNs mb) (boot : ∀ z : Str, z ≠ "__name__" → mb z = bootBuiltins z) (lim : s.heap.NoLimit) (gens : s.gens = #[])
    (at_ : s.heap.get? a = some { cls := .type "list", data := .seq vs.toArray }) (hok : HOk P w H s.heap) (room : Room k callerA)
    (F : ∀ base : Heap, K.In base → base.Ns mainGlobals mg → FnG P w K mg base CX k f fd [y] sp) (bind : ∀ (s : Shared) (u : Value), BindsTo s fd ⟨[u], []⟩ [(y, u)])
    (good : sp [.ref a] H (fun v _ => v = .bl true) fun _ _ _ => False) (calm : ∀ e s', CX [] H s (fun _ _ _ => False) e s' → False) :
    codeAny (model P w) callerA (.call (.ref f) ⟨[.ref a], []⟩) (fun r s' => r = .ok (.ret (.bool true)) ∧ OldK s.heap s'.heap ∧ s'.os = s.os ∧ AllBare s'.gens) s := by
  have bare : ∀ {b : Addr} {o : Obj}, s.heap.get? b = some o → b ≠ a → H b = none := fun {b o} _ n => (only b).resolve_right fun z => n z.1
  have shows : ∀ {b : Addr} {o : Obj}, s.heap.get? b = some o → H b = none → (hidT s.heap H).get? b = some o := hidT_get
  have names : ∀ {b : Addr} {m : Str → Option Value}, s.heap.Ns b m → (hidT s.heap H).Ns b m := by
    rintro b m ⟨o, es, ep, e, dd, r⟩
    refine ⟨o, es, ep, shows e (bare e ?_), dd, r⟩
    rintro rfl
    have same := Option.some.inj (at_.symm.trans e)
    rw [← same] at dd
    exact Data.noConfusion dd
  have kin' : K.In (hidT s.heap H) := by
    intro b o e
    refine shows (kin b o e) (Classical.byContradiction fun n => ?_)
    rcases only b with z | ⟨rfl, _⟩
    · exact n z
    · rw [apart n] at e
      cases e
  have env : Env0 P w K mg (hidT s.heap H) callerA [] s H :=
    ⟨rfl, ⟨kin', names glob, ⟨mb, names bn, boot⟩, (lim.elim fun mc z => ⟨mc, names z.1, z.2⟩)⟩, (fun _ _ z => of_hidT z), Nat.le_of_eq (hidT_size _ _), trivial, (fun b z => nomatch z), hok, .of_eq gens⟩
  refine codeAny_mono ((F _ kin' (names glob)).goes callerA [] s H ⟨[.ref a], []⟩ [.ref a] [.ref a] _ _ rfl room env (bind s _) (.cons rfl .nil) good) ?_
  rintro (e | _ | _ | _ | u) s' out
  · exact (calm e s' out).elim
  · exact False.elim out
  · exact False.elim out
  · exact False.elim out
  obtain ⟨v, H', os, gs, un, hok', rel, rfl⟩ := out
  cases rel
  refine ⟨rfl, OldK.of_keep fun b o e => ?_, os, gs⟩
  rcases only b with z | ⟨_, z⟩
  · exact un.keep b o e z (fun q => nomatch q) (fun q => nomatch q)
  · have h1 := (hok b _ z).1
    have h2 := (hok' b _ (un.frzs b _ _ z)).1
    rw [← Option.some.inj (h1.symm.trans e)]
    exact h2
end
/-- the law as it is asked, from its promise -/
theorem endG {l : PySem.W.OpenLaw} {n k : Nat} {q : Program} {loose : List Str} {XP : (Str → Option Value) → Heap → Prop} {YP : World → Heap → Prop} {d : DefRec} {CX : CXT} {y : Str}
    (most : l.most = some n) (fits : n ≤ sizeLine) (plain : d.params.defaults = []) (room : Room k callerA)
    (F : ∀ (w : World) (mg : Str → Option Value) (fa : Addr) (h : Heap), YP w h → h.Ns mainGlobals mg → mg d.name = some (.ref fa) →
      ∃ (K : PySem.W.Frag) (fd : FuncData) (sp : Sp), K.In h ∧ (∀ (s : Shared) (u : Value), BindsTo s fd ⟨[u], []⟩ [(y, u)]) ∧
        (∀ (H : Hp) (a : Addr) (ns : List Int), ns.length ≤ n → SqL K H a (ns.map V.int) → sp [.ref a] H (fun v _ => v = .bl true) fun _ _ _ => False) ∧
        ∀ base : Heap, K.In base → base.Ns mainGlobals mg → FnG l.prog w K mg base CX k fa fd [y] sp)
    (calm : ∀ (H : Hp) (s : Shared) (e : Value) (s' : Shared), CX [] H s (fun _ _ _ => False) e s' → False) :
    PySem.W.WalkO q loose XP YP l.row.toRowW d [] (fun f vs => PySem.call f vs) := by
  apply Att.attach_call most plain
  intro w s0 s mg mb fa o pm cd doc a vs ns G Y _ _ _ name at_ nums few gens
  obtain ⟨K, fd, sp, kin, bind, good, keeps⟩ := F w mg fa _ Y G.T.g name
  have rel := vals_ints nums
  have len : ns.length ≤ sizeLine := Nat.le_trans few fits
  by_cases own : K.lookup a = none
  · obtain ⟨Hs, here, rest⟩ : ∃ Hs : Hp, Hs a = some (HO.frz { cls := .type "list", data := .seq vs.toArray } (.lst (ns.map V.int))) ∧ ∀ b, b ≠ a → Hs b = none :=
      ⟨fun b => if b = a then some (HO.frz { cls := .type "list", data := .seq vs.toArray } (.lst (ns.map V.int))) else none, if_pos rfl, fun b c => if_neg c⟩
    refine end_at (ns := ns) (H := Hs) (fun b => ?_) kin (fun _ => own) G.T.g G.T.b G.T.builtins G.T.nolimit gens at_ (fun b u z => ?_) room keeps bind (good Hs a ns few (.inl (.inr ⟨_, here⟩))) (calm _ _)
    · by_cases c : b = a
      · exact .inr ⟨c, c ▸ here⟩
      · exact .inl (rest b c)
    · by_cases c : b = a
      · subst c
        cases here.symm.trans z
        exact ⟨at_, by rw [List.length_map]; exact len, vs, _, rel, at_⟩
      · cases (rest b c).symm.trans z
  · obtain ⟨ob, hob⟩ := Option.ne_none_iff_exists'.mp own
    have same := Option.some.inj ((kin a ob hob).symm.trans at_)
    refine end_at (ns := ns) (H := fun _ => none) (fun b => .inl rfl) kin (fun z => absurd rfl z) G.T.g G.T.b G.T.builtins G.T.nolimit gens at_ (fun b u z => nomatch z) room keeps bind (good _ a ns few (.inr ?_)) (calm _ _)
    rw [same] at hob
    exact ⟨_, vs.toArray, _, hob, rfl, rfl, rfl, by rw [List.size_toArray, nums.length]; exact len, by simpa using rel⟩
/-! ### repr of data -/
section
variable {X : Cx}
def rReprD (K : PySem.W.Frag) : List V → Hp → VK → Prop := fun vs H Q => ∃ (a : Addr) (d : PyData), vs = [.ref a] ∧ Dp K H (.ref a) d ∧ d.showable = true ∧ d.hasDict = false ∧ d.depth ≤ 64 ∧ d.shown.length ≤ sizeLine ∧ Q (.str d.shown) H
theorem cr_reprD (quiet : X.A.guards = some []) (hu : X.A.units + 66 < cLine) : CallR X (.builtin "repr") (rReprD X.K) := fun pins s σ H vs us Q I r h => by
  obtain ⟨a, d, rfl, da, shows, plain, deep, short, q⟩ := h
  cases Vals.ref1 r
  obtain ⟨as, rd⟩ := Dp.reads I d _ _ da (show RelV (.ref a) (.ref a) from rfl)
  exact repr_of_reads' rd shows (fun z => by rw [plain] at z; cases z) quiet (by omega) (fun _ _ e => e) (fun h' u tk old => ⟨.str d.shown, H, I.kept old, ⟨_, rfl⟩, q⟩) short
end
theorem un66 {k : Nat} {A : Around} (r : Room k A) : A.units + 66 < cLine := by
  have := r.un
  omega
end UG
/-! own layer: what an exception class of the program's own needs of its built-in base (KeyError too), and what repr tells of a thing -/
namespace UE
open PySem PySem.Spec PySem.W.X PyProof.Rows L2
/-- the built-in classes above a class that stands below KeyError -/
def keTail : List Value := [.type "KeyError", .type "LookupError", .type "Exception", .type "BaseException", .type "object"]
theorem store_key : StoreFacts "KeyError" keTail "object.__setattr__" "object" :=
  ⟨by kernel_rfl, Slot.of (owner := "object") (n := "__setattr__") (by rw [typeLookup_type, builtinLookup_eq_fast]; kernel_rfl) (by decide +kernel) (by decide +kernel) (by decide +kernel) (.inl (by decide +kernel)) (by rw [isSubtype_type]; kernel_rfl), F.store_LookupError.entry, F.store_LookupError.kind, F.store_LookupError.split, by decide +kernel, F.store_LookupError.args, fun self => by kernel_rfl⟩
/-- at C stands a class of the program below KeyError, which is made as LookupError is -/
structure Below (hp : Heap) (C : Addr) : Prop where
  ex : ∃ nm q N bs tl hd sn sub ab col dd k0 k1 k2 k3 k5, hp.get? C = some (excClassObj nm q C N bs tl hd sn sub ab col dd k0 k1 k2 k3 k5 "LookupError.__new__") ∧ ∀ X : String, tl.contains (.type X) = keTail.contains (.type X)
section
variable {M : Model} {A : Around} {E : Value → Shared → Prop} {hp hp' : Heap} {g : Array GenState} {d : Drawn} {t : Nat} {os : OsState} {C e : Addr}
theorem Below.keeps (b : Below hp C) (k : ∀ c o, hp.get? c = some o → hp'.get? c = some o) : Below hp' C := by
  obtain ⟨nm, q, N, bs, tl, hd, sn, sub, ab, col, dd, k0, k1, k2, k3, k5, here, all⟩ := b.ex
  exact ⟨nm, q, N, bs, tl, hd, sn, sub, ab, col, dd, k0, k1, k2, k3, k5, k _ _ here, all⟩
theorem Below.type (b : Below hp C) : Shared.TypeIs ⟨hp, g, d, t, os⟩ (.ref C) "type" := by
  obtain ⟨nm, q, N, bs, tl, hd, sn, sub, ab, col, dd, k0, k1, k2, k3, k5, here, all⟩ := b.ex
  exact ⟨_, here, rfl⟩
/-- whether it stands below a built-in class -/
theorem Below.sub {X : String} {y : Bool} {Q : Bool → Shared → Prop} (b : Below hp C) (hy : keTail.contains (.type X) = y) (q : Q y ⟨hp, g, d, t, os⟩) : wpAny M A (isSubtype (.ref C) (.type X)) Q E ⟨hp, g, d, t, os⟩ := by
  obtain ⟨nm, qn, N, bs, tl, hd, sn, sub, ab, col, dd, k0, k1, k2, k3, k5, here, all⟩ := b.ex
  refine wpAny_isSubtype_exc here ?_
  rwa [List.contains_cons, all, hy, show (Value.type X == Value.ref C) = false from rfl, Bool.false_or]
theorem Below.self {Q : Bool → Shared → Prop} (b : Below hp C) (q : Q true ⟨hp, g, d, t, os⟩) : wpAny M A (isSubtype (.ref C) (.ref C)) Q E ⟨hp, g, d, t, os⟩ := by
  obtain ⟨nm, qn, N, bs, tl, hd, sn, sub, ab, col, dd, k0, k1, k2, k3, k5, here, all⟩ := b.ex
  refine wpAny_isSubtype_exc here ?_
  rwa [List.contains_cons, beq_self_eq_true, Bool.true_or]
theorem Below.by {Q : Option String → Shared → Prop} (b : Below hp C) (q : Q (some "LookupError.__new__") ⟨hp, g, d, t, os⟩) : wpAny M A (Bind.madeBy (.ref C)) Q E ⟨hp, g, d, t, os⟩ := by
  obtain ⟨nm, qn, N, bs, tl, hd, sn, sub, ab, col, dd, k0, k1, k2, k3, k5, here, all⟩ := b.ex
  exact wpAny_madeBy_exc here q
theorem Below.static {Q : Value → Shared → Prop} (b : Below hp C) (q : Q (.ref C) ⟨hp, g, d, t, os⟩) : wpAny M A (Bind.staticBase (.ref C)) Q E ⟨hp, g, d, t, os⟩ := by
  obtain ⟨nm, qn, N, bs, tl, hd, sn, sub, ab, col, dd, k0, k1, k2, k3, k5, here, all⟩ := b.ex
  exact wpAny_staticBase_exc here q
theorem Below.made {id : String} {Q : Unit → Shared → Prop} (b : Below hp C) (same : Manifest.canonical "LookupError.__new__" = Manifest.canonical id) (q : Q () ⟨hp, g, d, t, os⟩) : wpAny M A (Bind.madeHere id (.ref C)) Q E ⟨hp, g, d, t, os⟩ := by
  obtain ⟨nm, qn, N, bs, tl, hd, sn, sub, ab, col, dd, k0, k1, k2, k3, k5, here, all⟩ := b.ex
  exact wpAny_madeHere_exc same here q
end
section
variable {M : Model} {A : Around} {E : Value → Shared → Prop} {hp hp' : Heap} {g : Array GenState} {d : Drawn} {t : Nat} {os : OsState} {C e : Addr}
/-- LookupError.__new__(C, ..) may be called -/
theorem may_new {rest : List Value} {Q : Unit → Shared → Prop} (b : Below hp C) (q : Q () ⟨hp, g, d, t, os⟩) : wpAny M A (checkBuiltinCall "LookupError.__new__" ⟨.ref C :: rest, []⟩) Q E ⟨hp, g, d, t, os⟩ := by
  have L := F.excBase_LookupError
  obtain ⟨nm, qn, N, bs, tl, hd, sn, sub, ab, col, dd, k0, k1, k2, k3, k5, here, _⟩ := id b.ex
  simp only [checkBuiltinCall, L.newKind, L.newSplit, L.newRow]
  repeat (first | with_reducible refine Below.static b ?_ | with_reducible refine Below.by b ?_ | with_reducible refine Below.made b (by decide +kernel) ?_ | with_reducible refine Below.self b ?_ | with_reducible refine Below.sub (y := true) b (by decide +kernel) ?_ | with_reducible refine Below.sub (y := false) b (by decide +kernel) ?_ | with_reducible refine wpAny_loadPart_at here ?_ | wp_step)
  exact q
/-- KeyError.__init__(e, ..) may be called -/
theorem may_init {o : Obj} {rest : List Value} {Q : Unit → Shared → Prop} (b : Below hp C) (he : hp.get? e = some o) (hc : o.cls = .ref C) (q : Q () ⟨hp, g, d, t, os⟩) : wpAny M A (checkBuiltinCall "KeyError.__init__" ⟨.ref e :: rest, []⟩) Q E ⟨hp, g, d, t, os⟩ := by
  have L := excClass_KeyError
  simp only [checkBuiltinCall, L.initKind, L.initSplit, L.initSig]
  refine wpAny_bind (m := isInstance _ _) ?_
  unfold isInstance
  have ty : wpAny M A (typeOf (.ref e)) (fun v s => v = .ref C ∧ s = ⟨hp, g, d, t, os⟩) E ⟨hp, g, d, t, os⟩ := by
    rw [← hc]
    repeat (first | with_reducible refine wpAny_loadPart_at he ?_ | wp_step)
    exact ⟨rfl, rfl⟩
  refine wpAny_bind (wpAny_mono ty ?_ fun _ _ z => z)
  rintro _ _ ⟨rfl, rfl⟩
  refine b.sub (y := true) (by decide +kernel) ?_
  rw [Bool.not_true, if_neg Bool.false_ne_true]
  unfold Bind.checkArgs
  wp_walk
  obtain ⟨nm, qn, N, bs, tl, hd, sn, sub, ab, col, dd, k0, k1, k2, k3, k5, here, _⟩ := id b.ex
  rw [hc]
  repeat (first | with_reducible refine Below.static b ?_ | with_reducible refine Below.by b ?_ | with_reducible refine Below.made b (by decide +kernel) ?_ | with_reducible refine Below.self b ?_ | with_reducible refine Below.sub (y := true) b (by decide +kernel) ?_ | with_reducible refine Below.sub (y := false) b (by decide +kernel) ?_ | with_reducible refine wpAny_loadPart_at here ?_ | wp_step)
  apply wpAny_onRaise
  rw [show ({ pos := Value.ref e :: rest } : Args).kw = [] from rfl, List.map_nil, check_star_args]
  exact wpAny_pure q
end
section
variable {prog : Program} {w : World} {A : Around} {E : Value → Shared → Prop} {R : Result → Shared → Prop} {hp hp' : Heap} {g : Array GenState} {d : Drawn} {t : Nat} {os : OsState} {C e : Addr}
/-- LookupError.__new__(C, ..): the object and the tuple of what is handed in -/
theorem new_key {rest : List Value} (b : Below hp C) (few : rest.length ≤ sizeLine)
    (q : R (.ok (.ret (.ref (hp.objs.size + 1)))) ⟨(hp.push (PySem.W.kdv_tup rest)).push (HandSPX.excO C hp.objs.size), g, d, t, os⟩) : codeAny (model prog w) A (.builtin "LookupError.__new__" ⟨.ref C :: rest, []⟩) R ⟨hp, g, d, t, os⟩ := by
  have L := F.excBase_LookupError
  obtain ⟨nm, qn, N, bs, tl, hd, sn, sub, ab, col, dd, k0, k1, k2, k3, k5, here, _⟩ := id b.ex
  have ends := L.ends
  refine codeAny_builtinAt L.entry ?_
  unfold Builtin.«BaseException.__new__»
  apply PySem.wpAt_bind
  change PySem.wpAt _ _ _ (stack >>= _) _ _ _
  apply PySem.wpAt_bind
  refine PySem.wpAt_stack fun top under => PySem.wpAt_of_wpAny ?_
  wp_walk
  apply PySem.wpAt_of_wpAny
  rw [L.owner]
  repeat (first | with_reducible refine Below.static b ?_ | with_reducible refine Below.by b ?_ | with_reducible refine Below.made b (by decide +kernel) ?_ | with_reducible refine Below.self b ?_ | with_reducible refine Below.sub (y := true) b (by decide +kernel) ?_ | with_reducible refine Below.sub (y := false) b (by decide +kernel) ?_ | with_reducible refine wpAny_loadPart_at here ?_ | wp_step)
  change R _ _
  rwa [Heap.size_push]
/-- KeyError.__init__(e, ..): the arguments are laid anew -/
theorem init_key {t0 : Addr} {rest : List Value} (b : Below hp C) (he : hp.get? e = some (HandSPX.excO C t0)) (few : rest.length ≤ sizeLine)
    (q : ∀ h' t1, (∀ c o, c ≠ e → hp.get? c = some o → h'.get? c = some o) → h'.get? e = some (HandSPX.excO C t1) → R (.ok (.ret .none)) ⟨h', g, d, t, os⟩) : codeAny (model prog w) A (.call (.builtin "KeyError.__init__") ⟨.ref e :: rest, []⟩) R ⟨hp, g, d, t, os⟩ := by
  refine codeAny_call_builtin excClass_KeyError.init.plain excClass_KeyError.initEntry (may_init b he rfl ?_)
  wp_walk
  refine q _ hp.objs.size (fun c o n z => ?_) ?_
  · exact (Heap.get?_update_other _ _ n.symm).trans (Heap.get?_push_of_some _ z)
  · exact Heap.get?_update_self _ (Heap.get?_push_of_some _ he) rfl
/-- C(..), C's own __init__ behind LookupError.__new__ -/
theorem call_key {fI : Addr} {rest : List Value} (b : Below hp C) (look : PySem.W.Looks (model prog w) hp (typeLookup (.ref C) "__init__") (some (.ref fI))) (bind : ∀ self, PySem.W.Looks (model prog w) hp (bindSpecial (.ref fI) self) (.ref fI, [self])) (few : rest.length ≤ sizeLine)
    (q : codeAny (model prog w) (A.under (.builtin "type.__call__" ⟨.ref C :: rest, []⟩)) (.call (.ref fI) ⟨.ref (hp.objs.size + 1) :: rest, []⟩) (PySem.W.InitBack (hp.objs.size + 1) R) ⟨(hp.push (PySem.W.kdv_tup rest)).push (HandSPX.excO C hp.objs.size), g, d, t, os⟩) :
    codeAny (model prog w) A (.call (.ref C) ⟨rest, []⟩) R ⟨hp, g, d, t, os⟩ := by
  obtain ⟨nm, qn, N, bs, tl, hd, sn, sub, ab, col, dd, k0, k1, k2, k3, k5, here, _⟩ := id b.ex
  have ty := Below.type (g := g) (d := d) (t := t) (os := os) b
  have l1 := tc_lookup
  have l2 := tc_bind (.ref C)
  apply codeAny_of_tree
  change wpAny _ _ (callAny (.ref C) _) _ _ _
  repeat (any_goals (first | assumption | with_reducible refine wpAny_loadPart_at here ?_ | wp_step))
  refine ⟨rfl, ?_⟩
  refine codeAny_call_builtin_at (Code.quiet_builtin _ (by decide +kernel)) entry_typeCall (wpAny_check_type_call_sub here ?_)
  change wpAny _ _ (Builtin.«type.__call__» ⟨.ref C :: rest, []⟩) _ _ _
  repeat (first | with_reducible refine Below.static b ?_ | with_reducible refine Below.by b ?_ | with_reducible refine Below.made b (by decide +kernel) ?_ | with_reducible refine Below.self b ?_ | with_reducible refine Below.sub (y := true) b (by decide +kernel) ?_ | with_reducible refine Below.sub (y := false) b (by decide +kernel) ?_ | with_reducible refine wpAny_loadPart_at here ?_ | wp_step)
  refine codeAny_call_builtin_code (Code.quiet_builtin _ F.excBase_LookupError.quiet) (may_new b (new_key b few ?_))
  change wpAny _ _ _ _ _ _
  have old : ∀ c o, hp.get? c = some o → ((hp.push (PySem.W.kdv_tup rest)).push (HandSPX.excO C hp.objs.size)).get? c = some o := fun c o z => Heap.get?_push_of_some _ (Heap.get?_push_of_some _ z)
  have b1 := b.keeps old
  have it : ((hp.push (PySem.W.kdv_tup rest)).push (HandSPX.excO C hp.objs.size)).get? (hp.objs.size + 1) = some (HandSPX.excO C hp.objs.size) := by heap_get
  unfold isInstance
  repeat (first | with_reducible refine wpAny_loadPart_at it ?_ | with_reducible refine Below.self b1 ?_ | wp_step)
  refine (look.keeps old).at (wpAny_holding (wpAny_bind (((bind _).keeps old).at (wpAny_bind (wpAny_call (codeAny_mono q fun r s' z => ?_))))))
  match r, z with
  | .error _, z => exact z
  | .ok (.ret _), z =>
    obtain ⟨rfl, z⟩ := z
    wp_walk
    exact z
end
/-! ### what a built-in class gives to an own class below it -/
/-- how an own class below it is made, and what its __init__ does -/
structure BaseM (newId initId : String) (tail : List Value) : Prop where
  makes : ∀ {prog : Program} {w : World} {A : Around} {R : Result → Shared → Prop} {hp : Heap} {g : Array GenState} {d : Drawn} {t : Nat} {os : OsState} {nm q : Str} {C N fI : Addr} {bs tl : List Value} {hd : Bool} {sn : List Str} {sub : List Value} {ab : Bool} {col : Option Bool} {dd : Option Addr} {k0 k1 k2 k3 k5 : Option Value} {rest : List Value},
    hp.get? C = some (excClassObj nm q C N bs tl hd sn sub ab col dd k0 k1 k2 k3 k5 newId) → (∀ X : String, tl.contains (.type X) = tail.contains (.type X)) → PySem.W.Looks (model prog w) hp (typeLookup (.ref C) "__init__") (some (.ref fI)) →
    (∀ self, PySem.W.Looks (model prog w) hp (bindSpecial (.ref fI) self) (.ref fI, [self])) → rest.length ≤ sizeLine →
    codeAny (model prog w) (A.under (.builtin "type.__call__" ⟨.ref C :: rest, []⟩)) (.call (.ref fI) ⟨.ref (hp.objs.size + 1) :: rest, []⟩) (PySem.W.InitBack (hp.objs.size + 1) R) ⟨(hp.push (PySem.W.kdv_tup rest)).push (HandSPX.excO C hp.objs.size), g, d, t, os⟩ →
    codeAny (model prog w) A (.call (.ref C) ⟨rest, []⟩) R ⟨hp, g, d, t, os⟩
  inits : ∀ {prog : Program} {w : World} {A : Around} {R : Result → Shared → Prop} {hp : Heap} {g : Array GenState} {d : Drawn} {t : Nat} {os : OsState} {nm q : Str} {C N e t0 : Addr} {bs tl : List Value} {hd : Bool} {sn : List Str} {sub : List Value} {ab : Bool} {col : Option Bool} {dd : Option Addr} {k0 k1 k2 k3 k5 : Option Value} {rest : List Value},
    hp.get? C = some (excClassObj nm q C N bs tl hd sn sub ab col dd k0 k1 k2 k3 k5 newId) → (∀ X : String, tl.contains (.type X) = tail.contains (.type X)) → hp.get? e = some (HandSPX.excO C t0) → rest.length ≤ sizeLine →
    (∀ h' t1, (∀ c o, c ≠ e → hp.get? c = some o → h'.get? c = some o) → h'.get? e = some (HandSPX.excO C t1) → R (.ok (.ret .none)) ⟨h', g, d, t, os⟩) → codeAny (model prog w) A (.call (.builtin initId) ⟨.ref e :: rest, []⟩) R ⟨hp, g, d, t, os⟩
theorem BaseM.exc {B newId initId : String} {tail : List Value} (F : ExcBaseFacts B newId initId tail) : BaseM newId initId tail :=
  ⟨fun here all look bind few q => HandSPX.call_own F all here look bind few q, fun here all he few q => HandSPX.init_base F all here he few q⟩
theorem BaseM.key : BaseM "LookupError.__new__" "KeyError.__init__" keTail :=
  ⟨fun here all look bind few q => call_key ⟨_, _, _, _, _, _, _, _, _, _, _, _, _, _, _, _, here, all⟩ look bind few q, fun here all he few q => init_key ⟨_, _, _, _, _, _, _, _, _, _, _, _, _, _, _, _, here, all⟩ he few q⟩
/-! ### what repr tells of a thing: some text, whatever else is being shown -/
/-- what stood stays -/
def Kept (h h' : Heap) : Prop := ∀ c o, h.get? c = some o → h'.get? c = some o
theorem Kept.refl (h : Heap) : Kept h h := fun _ _ z => z
theorem Kept.trans {h h1 h2 : Heap} (a : Kept h h1) (b : Kept h1 h2) : Kept h h2 := fun c o z => b c o (a c o z)
/-- the thing's text, within another one's: at most n signs, at most k more on the stack -/
def Tells (prog : Program) (w : World) (h0 : Heap) (x : Value) (n k : Nat) : Prop := ∀ (ahead : Nat) (A : Around) (E : Value → Shared → Prop) (s : Shared) (Q : Str → Shared → Prop), ahead + n ≤ sizeLine → A.units + k < cLine → Kept h0 s.heap →
  (∀ m h' tk, m.length ≤ n → Kept s.heap h' → Q m { s with heap := h', toks := tk }) → wpAny (model prog w) A (pyReprUnder ahead x) Q E s
inductive TellsAll (prog : Program) (w : World) (h0 : Heap) (k : Nat) : List Value → Nat → Prop
  | nil : TellsAll prog w h0 k [] 0
  | cons {x : Value} {n : Nat} {xs : List Value} {m : Nat} (h : Tells prog w h0 x n k) (t : TellsAll prog w h0 k xs m) : TellsAll prog w h0 k (x :: xs) (n + 2 + m)
section
variable {prog : Program} {w : World} {A : Around} {E : Value → Shared → Prop} {h0 : Heap} {s : Shared}
theorem Tells.more {x : Value} {n n' k k' : Nat} (h : Tells prog w h0 x n k) (hn : n ≤ n') (hk : k ≤ k') : Tells prog w h0 x n' k' :=
  fun ahead A E s Q room units old q => h ahead A E s Q (by omega) (by omega) old fun m h' tk few => q m h' tk (by omega)
/-- a thing whose text is known -/
theorem Tells.known {x : Value} {t : Str} (h : ReprIs prog w x t) (k : Nat) : Tells prog w h0 x t.length k :=
  fun ahead A E s Q room _ _ q => h ahead room A E s Q fun tk => q t s.heap tk (Nat.le_refl _) (Kept.refl _)
/-- a word of its own -/
theorem own_word {tag : String} {word : Str} {post : PySem.Fin → Shared → Prop} (small : word.length ≤ sizeLine) (h : ∀ tk u, post (.done (.ret (.str word u))) { s with toks := tk }) : wpAny (model prog w) A (rule tag >>= fun _ => retStr word) post E s :=
  wpAny_bind (wpAny_rule (wpAny_bind (wpAny_mkStr (wpAny_pure (h _ _)) small)))
/-- a tuple's parts, one behind another -/
theorem parts_told {k : Nat} (units : A.units + k < cLine) : ∀ {xs : List Value} {n : Nat}, TellsAll prog w h0 k xs n → ∀ (got : Array Str) (far : Nat) (s : Shared) (Q : Array Str × Nat → Shared → Prop), far + n ≤ sizeLine → Kept h0 s.heap →
    (∀ more h' tk, piled more ≤ n → more.length = xs.length → Kept s.heap h' → Q (got ++ more.toArray, far + piled more) { s with heap := h', toks := tk }) → wpAny (model prog w) A (forIn xs (got, far) tupBody) Q E s := by
  intro xs n all
  induction all with
  | nil =>
    intro got far s Q _ _ q
    rw [List.forIn_nil]
    have := q [] s.heap s.toks (Nat.le_refl _) rfl (Kept.refl _)
    exact wpAny_pure (by simpa [piled] using this)
  | @cons x n xs m one _ ih =>
    intro got far s Q room old q
    rw [List.forIn_cons]
    refine wpAny_bind ?_
    unfold tupBody
    refine wpAny_bind (one (far + 1) A E s _ (by omega) units old fun t h' tk short keep => wpAny_pure ?_)
    refine ih (got.push t) (far + (t.length + 2)) _ Q (by omega) (old.trans keep) fun more h2 tk2 few len keep2 => ?_
    have := q (t :: more) h2 tk2 (by rw [piled_cons]; omega) (by rw [List.length_cons, List.length_cons, len]) (keep.trans keep2)
    rw [piled_cons] at this
    rw [show got.push t ++ more.toArray = got ++ (t :: more).toArray from by simp, show far + (t.length + 2) + piled more = far + (t.length + 2 + piled more) from by omega]
    exact this
/-- a tuple's text, ahead of which some signs stand -/
theorem tuple_told {a : Addr} {o : Obj} {xs : Array Value} {c n k ahead : Nat} {post : PySem.Fin → Shared → Prop} (units : A.units + k < cLine) (old : Kept h0 s.heap) (here : s.heap.get? a = some o) (data : o.data = .seq xs c) (parts : TellsAll prog w h0 k xs.toList n) (room : ahead + n + 5 ≤ sizeLine)
    (q : ∀ m u h' tk, m.length ≤ n + 5 → Kept s.heap h' → post (.done (.ret (.str m u))) { s with heap := h', toks := tk }) : wpAny (model prog w) A (Builtin.tupleReprAt ahead ⟨[.ref a], []⟩) post E s := by
  rw [tuple_repr_tree, tupleReprUnderWay_eq]
  refine wpAny_bind (wpAny_bind (wpAny_stack_any fun st => wpAny_pure ?_))
  split
  · exact own_word (by decide +kernel) fun tk u => q _ _ _ _ (by have : ("(...)" : Str).length ≤ 5 := by decide +kernel
                                                                 omega) (Kept.refl _)
  · unfold tupleReprRest Builtin.Tuple.tupleItemsOf
    refine wpAny_bind (wpAny_bind (wpAny_seqItems here data (wpAny_pure ?_)))
    rw [← Array.forIn_toList]
    refine wpAny_bind (parts_told units parts #[] ahead s _ (by omega) old fun more h' tk few len keep => ?_)
    have text : (("(" : Str) ++ Str.join ", " (#[] ++ more.toArray : Array Str).toList ++ (if xs.size == 1 then ",)" else ")" : String)) = tupleText more := by
      unfold tupleText
      rw [len, Array.length_toList]
      simp
    have short := fmt_text more
    rw [text]
    exact wpAny_bind (wpAny_mkStr (wpAny_pure (q _ _ _ _ (by omega) keep)) (by omega))
/-- a list's text: its parts are told one way alone -/
theorem list_told {a : Addr} {o : Obj} {xs : List Value} {c ahead : Nat} {ts : List Str} {Q : Value → Shared → Prop} (here : s.heap.get? a = some o) (data : o.data = .seq xs.toArray c) (parts : ReprAll prog w xs ts) (room : ahead + (listText ts).length + 5 ≤ sizeLine)
    (q : ∀ m u h' tk, m.length ≤ (listText ts).length + 5 → Kept s.heap h' → Q (.str m u) { s with heap := h', toks := tk }) :
    wpAny (model prog w) A.in1 (Builtin.listReprAt ahead ⟨[.ref a], []⟩) (fun fin s' => match fin with | .done f => callEnd Q E (.ok f) s' | .again c' => c'.quiet = true ∧ codeAny (model prog w) A c' (callEnd Q E) s') (fun e s' => callEnd Q E (.error e) s') s := by
  have brief : ∀ m : Str, m.length ≤ 5 → ∀ (tk : Nat) (u : Tok), callEnd Q E (.ok (.ret (.str m u))) { s with toks := tk } := fun m few tk u => q m u s.heap tk (by omega) (Kept.refl _)
  have each : ∀ {xs : List Value} {ts : List Str}, ReprAll prog w xs ts → ∀ (i : Nat) (x : Value), xs[i]? = some x → ∃ t, ts[i]? = some t ∧ ReprIs prog w x t := by
    intro xs ts h
    induction h with
    | nil => exact fun i x e => by simp at e
    | cons r _ ih =>
      intro i x e
      cases i with
      | zero =>
        cases e
        exact ⟨_, rfl, r⟩
      | succ i => exact ih i x e
  unfold Builtin.listReprAt
  refine wpAny_bind (m := slotArgs _ _ _) (wpAny_pure (wpAny_bind (m := Builtin.List.listItems _) (wpAny_listItems here data ?_)))
  split
  · exact own_word (by decide +kernel) fun tk u => brief _ (by decide +kernel) _ _
  refine wpAny_bind (wpAny_stack_any fun st => ?_)
  dsimp only
  split
  · exact own_word (by decide +kernel) fun tk u => brief _ (by decide +kernel) _ _
  have lt := Heap.lt_size here
  refine wpAny_bind (m := newList []) (wpAny_newObj_type (wpAny_pure ⟨F.quiet_list_repr_loop _, ?_⟩))
  refine codeAny_list_repr_start (ts := ts) (Nat.ne_of_lt lt) (by rw [parts.length_eq]; rfl) (fun i x e => each parts i x (by rwa [List.getElem?_toArray] at e)) (Heap.get?_push_of_some _ here) data (Heap.get?_push_size _ rfl) (fun h' u tk keep => ?_) (by omega)
  exact q _ u h' tk (Nat.le_add_right _ _) fun c o e => keep c o (Nat.ne_of_lt (Heap.lt_size e)) (Heap.get?_push_of_some _ e)
theorem list_under {a : Addr} {o : Obj} {xs : List Value} {c : Nat} {ts : List Str} (here : h0.get? a = some o) (cls : o.cls = .type "list") (data : o.data = .seq xs.toArray c) (parts : ReprAll prog w xs ts) : Tells prog w h0 (.ref a) ((listText ts).length + 5) 1 := by
  intro ahead A E s Q room units old q
  have ty : s.TypeIs (.ref a) "list" := ⟨o, old _ _ here, cls⟩
  refine wpAny_pyReprUnder_ref (by omega) (wpAny_pyReprObjUnder_twin (twin := "list.__repr__.under") ty F.slot_list_repr.toG rfl (by omega) ?_)
  exact call_twin_plain F.plain_list_repr_under F.entry_list_repr_under F.check_list_repr_under ty F.slot_list_repr.toG (F.args_list_repr_1 _) (list_told (old _ _ here) data parts (by omega) fun m u h' tk few keep => ⟨⟨m, u, rfl⟩, m, u, rfl, q m h' tk few keep⟩)
/-- repr of an object, whose text is told -/
theorem list_repr {a : Addr} {o : Obj} {xs : List Value} {c : Nat} {ts : List Str} {Q : Value → Shared → Prop} (here : s.heap.get? a = some o) (cls : o.cls = .type "list") (data : o.data = .seq xs.toArray c) (parts : ReprAll prog w xs ts) (room : (listText ts).length + 5 ≤ sizeLine)
    (q : ∀ m u h' tk, m.length ≤ (listText ts).length + 5 → Kept s.heap h' → Q (.str m u) { s with heap := h', toks := tk }) : wpAny (model prog w) A (call (.builtin "list.__repr__") [.ref a]) Q E s :=
  wpAny_call (codeAny_call_builtin F.slot_list_repr.plain F.entry_list_repr (F.slot_list_repr.check _ _ _ _ _ _ _ _ ⟨o, here, cls⟩ (F.args_list_repr_1 _) (list_told here data parts (by omega) q)))
theorem tuple_repr {a : Addr} {o : Obj} {xs : Array Value} {c n k : Nat} {Q : Value → Shared → Prop} (units : A.units + (k + 1) < cLine) (here : s.heap.get? a = some o) (cls : o.cls = .type "tuple") (data : o.data = .seq xs c) (parts : TellsAll prog w s.heap k xs.toList n) (room : n + 5 ≤ sizeLine)
    (q : ∀ m u h' tk, m.length ≤ n + 5 → Kept s.heap h' → Q (.str m u) { s with heap := h', toks := tk }) : wpAny (model prog w) A (call (.builtin "tuple.__repr__") [.ref a]) Q E s := by
  refine wpAny_call (codeAny_call_builtin_own (Code.quiet_builtin _ (by decide +kernel)) F.entry_tuple_repr (F.slot_tuple_repr.check _ _ _ _ _ _ _ _ ⟨o, here, cls⟩ (F.args_tuple_repr_1 _) (wpOwn_of_wpAny (tuple_told (k := k) ?_ (Kept.refl _) here data parts (by omega) fun m u h' tk few keep => q m u h' tk few keep))))
  have : (A.under (.builtin "tuple.__repr__" ⟨[.ref a], []⟩)).units ≤ A.units + 1 := by
    simp [Around.under, Code.cUnits, Code.frames, Code.isFrame]
  show (A.under _).units + k < cLine
  omega
theorem tuple_under {a : Addr} {o : Obj} {xs : Array Value} {c n k : Nat} (here : h0.get? a = some o) (cls : o.cls = .type "tuple") (data : o.data = .seq xs c) (parts : TellsAll prog w h0 k xs.toList n) : Tells prog w h0 (.ref a) (n + 5) (k + 1) := by
  intro ahead A E s Q room units old q
  have ty : s.TypeIs (.ref a) "tuple" := ⟨o, old _ _ here, cls⟩
  refine wpAny_pyReprUnder_ref (by omega) (wpAny_pyReprObjUnder_twin (twin := "tuple.__repr__.under") ty F.slot_tuple_repr rfl (by omega) ?_)
  refine call_twin_own (F.quiet_tuple_repr_under _) F.entry_tuple_repr_under F.check_tuple_repr_under ty F.slot_tuple_repr (F.args_tuple_repr_1 _) (wpOwn_of_wpAny (tuple_told (k := k) ?_ old (old _ _ here) data parts (by omega) fun m u h' tk few keep => (show callEnd _ _ _ _ from ⟨⟨m, u, rfl⟩, m, u, rfl, q m h' tk few keep⟩)))
  show (A.under _).units + k < cLine
  have : (A.under (.builtin "tuple.__repr__.under" ⟨[.ref a, rawInt ahead], []⟩)).units ≤ A.units + 1 := by
    simp [Around.under, Code.cUnits, Code.frames, Code.isFrame]
  omega
end
/-! ### any thing that may be shown: a flat one, a list or a tuple of such, a tuple of these -/
inductive Flat : PyData → Nat → Prop
  | non : Flat .none 4
  | bl (b : Bool) : Flat (.bool b) 5
  | int {i : Int} (h : i.natAbs < 10 ^ 60) : Flat (.int i) 61
  | str {x : Str} (h : ∀ c ∈ x.cps.toList, c < 16 ^ 8) : Flat (.str x) (10 * x.length + 2)
inductive Flats : List PyData → Nat → Prop
  | nil : Flats [] 0
  | cons {d : PyData} {n : Nat} {ds : List PyData} {m : Nat} (h : Flat d n) (t : Flats ds m) : Flats (d :: ds) (n + 2 + m)
inductive Low : PyData → Nat → Prop
  | flat {d : PyData} {n : Nat} (h : Flat d n) : Low d n
  | lst {ds : List PyData} {n : Nat} (h : Flats ds n) : Low (.list ds) (n + 10)
inductive Lows : List PyData → Nat → Prop
  | nil : Lows [] 0
  | cons {d : PyData} {n : Nat} {ds : List PyData} {m : Nat} (h : Low d n) (t : Lows ds m) : Lows (d :: ds) (n + 2 + m)
inductive Odd : PyData → Nat → Prop
  | low {d : PyData} {n : Nat} (h : Low d n) : Odd d n
  | tup {ds : List PyData} {n : Nat} (h : Lows ds n) : Odd (.tuple ds) (n + 10)
theorem list_few (ts : List Str) : (listText ts).length ≤ piled ts + 3 := by
  have e : ∀ l : List Str, piled l = (l.map (·.length)).sum + 2 * l.length := by
    intro l
    induction l with
    | nil => rfl
    | cons t l ih =>
      rw [piled_cons, ih, List.map_cons, List.sum_cons, List.length_cons]
      omega
  have := listText_len_le ts
  have := e ts
  omega
theorem log_few {n : Nat} (h : n < 10 ^ 60) : n.log2 < 1920 := by
  by_cases z : n = 0
  · rw [z]
    decide
  · exact (Nat.log2_lt z).mpr (Nat.lt_trans h (by decide +kernel))
theorem Flats.lows {ds : List PyData} {n : Nat} (h : Flats ds n) : Lows ds n := by
  induction h with
  | nil => exact .nil
  | cons a _ ih => exact .cons (.flat a) ih
section
variable {X : Cx} {pins : List (Addr × Obj)} {σ : L2.St} {H : Hp} {s : Shared}
theorem flat_text {d : PyData} {n : Nat} (h : Flat d n) (few : n ≤ sizeLine) {v : V} {u : Value} (hd : Dp X.K H v d) (r : RelV v u) : ∃ t : Str, t.length ≤ n ∧ ReprIs X.prog X.w u t := by
  cases h with
  | non =>
    cases hd
    cases r
    exact ⟨_, by decide +kernel, .none⟩
  | bl b =>
    cases hd
    cases r
    exact ⟨_, by cases b <;> decide +kernel, .bool b⟩
  | int h =>
    cases hd
    obtain ⟨t, rfl⟩ := r
    have len := int_text_length_le10 (k := 60) (by decide) h
    exact ⟨_, by rw [PySem.ofString_length]; omega, .int t (log_few h)⟩
  | @str x h =>
    cases hd
    obtain ⟨t, rfl⟩ := r
    have len := StrLaws.reprText_len x h
    exact ⟨_, by omega, .str x t (by omega)⟩
theorem flats_text {ds : List PyData} {n : Nat} (h : Flats ds n) (few : n ≤ sizeLine) : ∀ {vs : List V} {us : List Value}, DpAll X.K H vs ds → Vals vs us → ∃ ts : List Str, piled ts ≤ n ∧ ReprAll X.prog X.w us ts := by
  induction h with
  | nil =>
    intro vs us hd r
    cases hd
    cases r
    exact ⟨[], Nat.le_refl _, .nil⟩
  | cons a _ ih =>
    intro vs us hd r
    cases hd with
    | cons d1 d2 =>
      cases r with
      | cons r1 r2 =>
        obtain ⟨t, lt, ht⟩ := flat_text a (by omega) d1 r1
        obtain ⟨ts, lts, hts⟩ := ih (by omega) d2 r2
        exact ⟨t :: ts, by rw [piled_cons]; omega, .cons ht hts⟩
theorem low_tells {d : PyData} {n : Nat} (h : Low d n) (few : n ≤ sizeLine) (I : Inv X pins σ H s) {v : V} {u : Value} (hd : Dp X.K H v d) (r : RelV v u) : Tells X.prog X.w s.heap u n 1 := by
  cases h with
  | flat h =>
    obtain ⟨t, lt, ht⟩ := flat_text h few hd r
    exact (Tells.known ht 1).more lt (Nat.le_refl _)
  | lst h =>
    cases hd with
    | lst sq all =>
      cases r
      obtain ⟨its, rel, ⟨o, c, here, cls, _, data⟩, _⟩ := I.list sq
      obtain ⟨ts, lt, ht⟩ := flats_text h (by omega) all rel
      have := list_few ts
      exact (list_under here cls data ht).more (by omega) (Nat.le_refl _)
theorem lows_tell {ds : List PyData} {n : Nat} (h : Lows ds n) (few : n ≤ sizeLine) (I : Inv X pins σ H s) : ∀ {vs : List V} {us : List Value}, DpAll X.K H vs ds → Vals vs us → TellsAll X.prog X.w s.heap 1 us n := by
  induction h with
  | nil =>
    intro vs us hd r
    cases hd
    cases r
    exact .nil
  | cons a _ ih =>
    intro vs us hd r
    cases hd with
    | cons d1 d2 =>
      cases r with
      | cons r1 r2 => exact .cons (low_tells a (by omega) I d1 r1) (ih (by omega) d2 r2)
/-- {x!r}, x any thing that may be shown: some text -/
def tFmtO (K : PySem.W.Frag) (te : TE) : TE := fun σ H Q => te σ H fun x H1 => ∃ (d : PyData) (n : Nat), Dp K H1 x d ∧ Odd d n ∧ n ≤ 1000000 ∧ ∀ m : Str, m.length ≤ n + 10 → Q (.str m) H1
theorem pe_fmtO {e : Expr} {te : TE} {pos : Pos} {k : Nat} (hr : Room k X.A) (he : PE X e te) : PE X (.FormattedValue e 114 none pos) (tFmtO X.K te) := ⟨fun pins s σ H Q I h => by
  refine wpAny_FormattedValue_repr (thn (he.run pins s σ H _ I h) ?_)
  rintro u s1 ⟨v, H1, I1, r1, d, n, hd, odd, few, q⟩
  have units := hr.units
  have line : n + 100 ≤ sizeLine := by rw [sizeLine_eq]; omega
  have fin : ∀ (m : Str) (t : Tok) (h' : Heap) (tk : Nat), m.length ≤ n + 10 → Kept s1.heap h' → wpAny (model X.prog X.w) X.A (formatField (.str m t) Str.empty) (fun v s' => ∃ y H', Inv X pins σ H' s' ∧ RelV y v ∧ Q y H') X.xe { s1 with heap := h', toks := tk } := fun m t h' tk le keep =>
    wpAny_formatField_str ⟨.str m, H1, I1.kept keep, ⟨_, rfl⟩, q m le⟩ ⟨.str m, H1, I1.kept keep, ⟨_, rfl⟩, q m le⟩ (by omega)
  cases odd with
  | low low =>
    cases low with
    | flat fl =>
      cases fl with
      | non =>
        cases hd
        cases r1
        exact pyReprObj_none (fin _ _ s1.heap _ (by decide +kernel) (Kept.refl _))
      | bl b =>
        cases hd
        cases r1
        exact pyReprObj_bool (fin _ _ s1.heap _ (by cases b <;> decide +kernel) (Kept.refl _))
      | int h =>
        cases hd
        obtain ⟨t, rfl⟩ := r1
        have len := int_text_length_le10 (k := 60) (by decide) h
        exact pyReprObj_int (log_few h) (fin _ _ s1.heap _ (by rw [PySem.ofString_length]; omega) (Kept.refl _))
      | @str x h =>
        cases hd
        obtain ⟨t, rfl⟩ := r1
        have len := StrLaws.reprText_len x h
        exact pyReprObj_str (fin _ _ s1.heap _ (by omega) (Kept.refl _)) (by omega)
    | lst h =>
      cases hd with
      | lst sq all =>
        cases r1
        obtain ⟨its, rel, ⟨o, c, here, cls, _, data⟩, _⟩ := I1.list sq
        obtain ⟨ts, lt, ht⟩ := flats_text h (by omega) all rel
        have := list_few ts
        exact wpAny_pyReprObj_slot (by omega) ⟨o, here, cls⟩ F.slot_list_repr.toG (list_repr here cls data ht (by omega) fun m u h' tk le keep => ⟨m, u, rfl, fin m u h' tk (by omega) keep⟩)
  | tup h =>
    cases hd with
    | tup sq all =>
      cases r1
      obtain ⟨its, rel, ⟨o, here, cls, c, data⟩, _⟩ := I1.tuple sq
      have parts := lows_tell h (by omega) I1 all rel
      exact wpAny_pyReprObj_slot (by omega) ⟨o, here, cls⟩ F.slot_tuple_repr (tuple_repr (k := 1) (by omega) here cls data parts (by omega) fun m u h' tk le keep => ⟨m, u, rfl, fin m u h' tk (by omega) keep⟩)⟩
end
/-! ### a list of texts in a message -/
section
variable {X : Cx}
/-- {xs}, xs a list of texts: some text, not too long -/
def tFmtL (K : PySem.W.Frag) (te : TE) : TE := fun σ H Q => te σ H fun x H1 => ∃ (a : Addr) (l : List Str), x = .ref a ∧ SqL K H1 a (l.map V.str) ∧ (∀ y ∈ l, ∀ c ∈ y.cps.toList, c < 16 ^ 8) ∧ fmtCost l + 8 ≤ sizeLine ∧ ∀ m : Str, m.length ≤ fmtCost l + 8 → Q (.str m) H1
theorem pe_fmtL {e : Expr} {te : TE} {pos : Pos} {k : Nat} (hr : Room k X.A) (he : PE X e te) : PE X (.FormattedValue e (-1) none pos) (tFmtL X.K te) := ⟨fun pins s σ H Q I h => by
  refine wpAny_FormattedValue_plain (thn (he.run pins s σ H _ I h) ?_)
  rintro u s1 ⟨v, H1, I1, r1, a, l, rfl, sq, signs, room, q⟩
  cases r1
  obtain ⟨its, rel, ⟨o, c, here, cls, _, data⟩, _⟩ := I1.list sq
  have units := hr.units
  have cost := fmt_piled l signs
  have text := list_few (l.map reprText)
  have parts : ReprAll X.prog X.w its (l.map reprText) := repr_all rel fun y hy => by
    have := fmtCost_mem hy
    have := StrLaws.reprText_len y (signs y hy)
    omega
  refine wpAny_formatField_slot (fun _ _ => nofun) (by omega) ⟨o, here, cls⟩ F.slot_list_format F.slot_list_str F.slot_list_repr.toG ?_
  exact list_repr (s := { s1 with toks := s1.toks + 1 }) here cls data parts (by omega) fun m u h' tk le keep => ⟨m, u, rfl, .str m, H1, I1.kept keep, ⟨_, rfl⟩, q m (by omega)⟩⟩
end
end UE
/-! own layer: refusals of own classes over any built-in base, made by their own __init__ -/
namespace UX
open PySem PySem.Spec PyProof.Rows L2 Builtin Builtin.ObjectAttr
/-- what the written part says of an own exception class C over the built-in class B -/
structure OwnX (K : PySem.W.Frag) (C : Addr) (B newId initId : String) (bmB : List Value) : Prop where
  base : UE.BaseM newId initId bmB
  store : StoreFacts B bmB "object.__setattr__" "object"
  form : PySem.W.excInitIn K C bmB newId = true
  over : PySem.W.excOver K C bmB = true
  dict : PySem.W.hasDictIn K C = true
  sa : PySem.W.findIn K (.ref C) "__setattr__" = some (some (.builtin "object.__setattr__"))
  exC : PySem.W.subIn K (.ref C) (.type "BaseException") = some true
  tyC : PySem.W.typeIn K (.ref C) = some (.type "type")
  kC : PySem.W.keepIn K (.ref C) = true
section
variable {X : Cx} {pins : List (Addr × Obj)} {σ : L2.St} {H : Hp} {s : Shared} {a C : Addr} {f : Str} {y : V} {u : Value} {A : Around} {B newId initId : String} {bmB : List Value}
/-- the first field of an exception that is being made: its dict is laid -/
theorem field1 {Q : Unit → Shared → Prop} {E : Value → Shared → Prop} (T : OwnX X.K C B newId initId bmB) (I : Inv X pins σ H s) (tracked : H a = some (exo a C none)) (free : PySem.W.findIn X.K (.ref C) f = some none) (rel : RelV y u)
    (done : ∀ dx s', H dx = none → dx ≠ a → Inv X pins σ (upd (upd H a (exo a C (some dx))) dx (exd dx [(f, y)])) s' → Q () s') : wpAny (model X.prog X.w) A (setAttr (.ref a) f u) Q E s := by
  obtain ⟨t1, here⟩ := exo_at I.hok tracked
  obtain ⟨cd, hcd, hasD⟩ := PySem.W.any_some T.dict
  obtain ⟨hp, g, d, t, os⟩ := s
  have inst : PySem.W.InstAt hp a { cls := .ref C, dict := none, data := .fields #[.ref t1, .none, .none, .none, .bool false, .none] } C none := ⟨here, rfl, rfl, trivial⟩
  have look : PySem.W.Looks (model X.prog X.w) hp (classData C) cd := PySem.W.looks_clsIn I.kIn hcd
  have apart : a ≠ hp.objs.size := Nat.ne_of_lt (Heap.lt_size here)
  refine PySem.W.set_plain I.kIn inst T.sa (PySem.W.osa_openX (r := none) T.store I.kIn inst T.over (by unfold PySem.W.takerIn; rw [free]; rfl) fun b => ?_)
  show wpAny _ _ (storeInOwnDict _ _ _ _ _ _) _ _ _
  have last : ∀ h' tk', h'.Ns1 hp.objs.size (fun z => if z = f then some u else none) → (∀ b o, b ≠ a → hp.get? b = some o → h'.get? b = some o) →
      h'.get? a = some { cls := .ref C, dict := some hp.objs.size, data := .fields #[.ref t1, .none, .none, .none, .bool false, .none] } → Q () ⟨h', g, d, tk', os⟩ := by
    intro h' tk' ns kept now
    obtain ⟨G, same, gone⟩ := restrict h' fun b => decide (b ≠ hp.objs.size)
    have sub : ∀ b o, G.get? b = some o → h'.get? b = some o := fun b o e => by
      by_cases c : b = hp.objs.size
      · rw [c, gone _ (by simp)] at e
        cases e
      · rwa [same b (decide_eq_true c)] at e
    have nowG := (same a (decide_eq_true apart)).trans now
    have J := I.write (t' := tk') (x := a) (e := a) (o := exo a C (some hp.objs.size)) (by rw [tracked]; trivial) (.inl rfl) (fun b o n e => (same b (decide_eq_true (Nat.ne_of_lt (Heap.lt_size e)))).trans (kept b o n e)) ⟨_, nowG⟩ (exo_ok nowG)
    have fresh : H hp.objs.size = none := I.hok.fresh (Nat.le_refl _)
    exact done _ _ fresh apart.symm (J.laidN (t' := tk') sub (gone _ (by simp)) (by rw [upd_ne apart.symm]; exact fresh) (exd_ok ns (relO_put (fs := []) rel fun _ => trivial)))
  obtain ⟨nm, bs, mro, ns, qn, hd, sn, sb, ab, col, del⟩ := cd
  dsimp only at hasD
  subst hasD
  unfold storeInOwnDict ownDictForStores
  repeat (first | with_reducible refine HandSPX.store_in_new ?_ ?_ | with_reducible refine wpAny_loadPart_at here ?_ | with_reducible refine look.at ?_ | wp_step)
  · exact ⟨_, #[], _, (Heap.get?_update_ne _ _ _ _ apart.symm).trans (Heap.get?_push_at rfl rfl), rfl, (fun _ z => nomatch z), fun _ => rfl⟩
  · intro h' tk' ns' rest
    refine last h' tk' ns' (fun b o n e => ?_) ?_
    · rw [rest.2 b (Nat.ne_of_lt (Heap.lt_size e)), Heap.get?_update_ne _ _ _ _ n]
      exact Heap.get?_push_of_some _ e
    · rw [rest.2 a apart]
      exact Heap.get?_update_self _ (Heap.get?_push_of_some _ here) rfl
/-- a further field of an exception that is being made -/
theorem field2 {Q : Unit → Shared → Prop} {E : Value → Shared → Prop} {dx : Addr} {fs : List (Str × V)} (T : OwnX X.K C B newId initId bmB) (I : Inv X pins σ H s) (tracked : H a = some (exo a C (some dx))) (held : H dx = some (exd dx fs)) (few : fs.length ≤ 900) (free : PySem.W.findIn X.K (.ref C) f = some none) (rel : RelV y u)
    (done : ∀ s', Inv X pins σ (upd H dx (exd dx ((f, y) :: fs))) s' → Q () s') : wpAny (model X.prog X.w) A (setAttr (.ref a) f u) Q E s := by
  obtain ⟨t1, here⟩ := exo_at I.hok tracked
  obtain ⟨mA, ns, rels⟩ := exd_at I.hok held
  have within := within_of rels
  obtain ⟨cd, hcd, hasD⟩ := PySem.W.any_some T.dict
  obtain ⟨hp, g, d, t, os⟩ := s
  obtain ⟨oD, _, _, hoD, _, _⟩ := ns.count within
  have inst : PySem.W.InstAt hp a { cls := .ref C, dict := some dx, data := .fields #[.ref t1, .none, .none, .none, .bool false, .none] } C (some oD) := ⟨here, rfl, rfl, hoD⟩
  have look : PySem.W.Looks (model X.prog X.w) hp (classData C) cd := PySem.W.looks_clsIn I.kIn hcd
  refine PySem.W.set_plain I.kIn inst T.sa (PySem.W.osa_openX (r := none) T.store I.kIn inst T.over (by unfold PySem.W.takerIn; rw [free]; rfl) fun b => ?_)
  show wpAny _ _ (storeInOwnDict _ _ _ _ _ _) _ _ _
  obtain ⟨nm, bs, mro, nss, qn, hd, sn, sb, ab, col, del⟩ := cd
  dsimp only at hasD
  subst hasD
  unfold storeInOwnDict ownDictForStores
  have low : (fs.map (·.1)).length ≤ 1000 := by
    rw [List.length_map]
    omega
  repeat (first | with_reducible refine PySem.OEX.store_in_old ns within low ?_ | with_reducible refine wpAny_loadPart_at here ?_ | with_reducible refine look.at ?_ | wp_step)
  intro h' tk' ns' only
  have there : ∃ o, h'.get? dx = some o := by
    obtain ⟨o, _, _, e, _⟩ := ns'
    exact ⟨o, e⟩
  exact done _ (I.write (t' := tk') (x := dx) (e := dx) (by rw [held]; trivial) (.inl rfl) (fun b o n e => (only.2 b n).trans e) there (exd_ok ns' (relO_put rel rels)))
/-- B.__init__(self, ..): the arguments alone are laid -/
theorem init1 {us : List Value} {Q : Value → Shared → Prop} {E : Value → Shared → Prop} (T : OwnX X.K C B newId initId bmB) (I : Inv X pins σ H s) (tracked : H a = some (exo a C none)) (few : us.length ≤ sizeLine)
    (done : ∀ s', Inv X pins σ H s' → Q .none s') : wpAny (model X.prog X.w) A (call (.builtin initId) (.ref a :: us)) Q E s := by
  obtain ⟨_, _, _, _, _, _, _, _, _, _, _, _, _, _, _, _, cls, tail⟩ := PySem.W.excInit_of I.kIn T.form
  obtain ⟨_, here⟩ := exo_at I.hok tracked
  obtain ⟨hp, g, d, t, os⟩ := s
  refine wpAny_call (T.base.inits cls tail here few fun h' _ kept now => done _ ?_)
  have J := I.write (t' := t) (x := a) (e := a) (o := exo a C none) (by rw [tracked]; trivial) (.inl rfl) kept ⟨_, now⟩ (exo_ok now)
  have same : upd H a (exo a C none) = H := funext fun b => by
    by_cases c : b = a
    · rw [c, upd_same, tracked]
    · exact upd_ne c
  rwa [same] at J
end
/-- a call o.name(..), read as the method that is got and then called -/
def Reads (X : Cx) (o : Expr) (name : Str) (at_ : Pos) (es : List Expr) (ks : List Keyword) (pos : Pos) (pl : Sem Bool) : Prop := ∀ {Q : Value → Shared → Prop} {E : Value → Shared → Prop} {s : Shared},
  wpAny (model X.prog X.w) X.A (eval o X.env) (fun self s1 => wpAny (model X.prog X.w) X.A (getMethod self name pl) (fun m s2 => wpAny (model X.prog X.w) X.A (callWith pos m.1 m.2 (backTo pos (starEach es X.env)) (backToKw pos (keywordEach ks X.env))) Q E s2) E s1) E s →
    wpAny (model X.prog X.w) X.A (eval (.Call (.Attribute o name at_) es ks pos) X.env) Q E s
/-! ### readings -/
/-- B.__init__(self, ..) -/
def tInit (K : PySem.W.Frag) (B newId initId : String) (bmB : List Value) (ta : TA) : TE := fun σ H Q => ta σ H fun vs H1 => ∃ (a C : Addr) (ws : List V), vs = .ref a :: ws ∧ ws.length ≤ 1000 ∧ OwnX K C B newId initId bmB ∧ H1 a = some (exo a C none) ∧ Q .non H1
/-- self.f = e, the first field -/
def tFld1 (K : PySem.W.Frag) (B newId initId : String) (bmB : List Value) (f : Str) (to te : TE) : TS := fun D σ H => te σ H fun y H1 => to σ H1 fun x H2 => ∃ a C : Addr, x = .ref a ∧ OwnX K C B newId initId bmB ∧ PySem.W.findIn K (.ref C) f = some none ∧ H2 a = some (exo a C none) ∧
  ∀ dx, H2 dx = none → dx ≠ a → D.nx σ (upd (upd H2 a (exo a C (some dx))) dx (exd dx [(f, y)]))
/-- self.f = e, a further field -/
def tFld2 (K : PySem.W.Frag) (B newId initId : String) (bmB : List Value) (f : Str) (to te : TE) : TS := fun D σ H => te σ H fun y H1 => to σ H1 fun x H2 => ∃ (a C dx : Addr) (fs : List (Str × V)), x = .ref a ∧ OwnX K C B newId initId bmB ∧ PySem.W.findIn K (.ref C) f = some none ∧ H2 a = some (exo a C (some dx)) ∧ H2 dx = some (exd dx fs) ∧ fs.length ≤ 900 ∧
  D.nx σ (upd H2 dx (exd dx ((f, y) :: fs)))
/-- C(e, ..), whose own __init__ keeps sp -/
def tOwn (C : Addr) (sp : Sp) (ta : TA) : L2.St → Hp → XK → Prop := fun σ H Q => ta σ H fun vs H1 => vs.length ≤ 1000 ∧ ∀ a, H1 a = none → sp (.ref a :: vs) (upd H1 a (exo a C none))
  (fun v H2 => v = .non ∧ ∃ (d : Addr) (fs : List (Str × V)), H2 a = some (exo a C (some d)) ∧ H2 d = some (exd d fs) ∧ H1 d = none ∧ Q (.ref C) (some d) (upd (del H2 a) d (.xd fs))) (fun _ _ _ => False)
section
variable {X : Cx} {o e : Expr} {es : List Expr} {to te : TE} {ta : TA} {f x : Str} {p p' p1 p2 pos : Pos} {B newId initId : String} {bmB : List Value} {Bs : Str}
theorem pe_init {pl : Sem Bool} (hB : bootBuiltins Bs = some (.type B)) (ty : typeOf (.type B) = pure (.type "type")) (stub : Manifest.isStub B = false) (nb : (Bs == ("__debug__" : Str)) = false) (nn : Bs ≠ "__name__") (hg : Gl X Bs) (hm : X.mg Bs = none) (at_ : PySem.W.findCls X.K (.type B) (.type "type") "__init__" = some (.val (.builtin initId))) (hi : PySem.W.handedIn (.builtin initId) = true) (ha : PA X (e :: es) ta)
    (hc : Reads X (.Name Bs p1) "__init__" p2 (e :: es) [] pos pl := by intro _ _ _ h; exact PySem.W.methodCall_KW h)
    (he : starEach (e :: es) X.env = (false, eval e X.env) :: starEach es X.env := by rfl) (hpl : (backTo pos (starEach es X.env)).any (·.1) = false := by rfl) :
    PE X (.Call (.Attribute (.Name Bs p1) "__init__" p2) (e :: es) [] pos) (tInit X.K B newId initId bmB ta) := ⟨fun pins s σ H Q I h => by
  refine hc (ld_blt I hg hm hB ?_ nn nb)
  obtain ⟨m, fr⟩ := I.fr
  refine PySem.W.method_type fr I.ok.mod.kin ty stub at_ hi (PyProof.Rows.callWith_method1 (thn (ha.run pos pins _ σ H _ (I.tok _) h) ?_) he hpl)
  rintro us s1 ⟨_, H1, I1, rel, a, C, ws, rfl, few, T, here, q⟩
  cases rel with
  | cons ra rest =>
    cases ra
    exact init1 T I1 here (by rw [← Paired.length rest, sizeLine_eq]; omega) fun s' J => ⟨.non, H1, J, rfl, q⟩⟩
theorem ps_fld1 (ho : PE X o to) (he : PE X e te) (hs : swapsWith e (some (.Attribute o f p')) pos.line X.env = pure false := by rfl) : PS X (.Assign [.Attribute o f p'] e pos) (tFld1 X.K B newId initId bmB f to te) := ⟨fun pins s σ H D I h => by
  refine plainObj_wpAny_Assign_Attribute (thn (he.run pins s σ H _ I h) ?_) hs
  rintro v s1 ⟨y, H1, I1, r1, q1⟩
  refine thn (ho.run pins s1 σ H1 _ I1 q1) ?_
  rintro _ s2 ⟨_, H2, I2, rx, a, C, rfl, T, free, here, q⟩
  cases rx
  exact field1 T I2 here free r1 fun dx s' n ne J => ⟨σ, _, J, q dx n ne⟩⟩
theorem ps_fld2 (ho : PE X o to) (he : PE X e te) (hs : swapsWith e (some (.Attribute o f p')) pos.line X.env = pure false := by rfl) : PS X (.Assign [.Attribute o f p'] e pos) (tFld2 X.K B newId initId bmB f to te) := ⟨fun pins s σ H D I h => by
  refine plainObj_wpAny_Assign_Attribute (thn (he.run pins s σ H _ I h) ?_) hs
  rintro v s1 ⟨y, H1, I1, r1, q1⟩
  refine thn (ho.run pins s1 σ H1 _ I1 q1) ?_
  rintro _ s2 ⟨_, H2, I2, rx, a, C, dx, fs, rfl, T, free, here, held, few, q⟩
  cases rx
  exact field2 T I2 here held few free r1 fun s' J => ⟨σ, _, J, q⟩⟩
theorem pm_own {CX : CXT} {C fI : Addr} {k : Nat} {fd : FuncData} {ps : List Str} {sp : Sp} (T : OwnX X.K C B newId initId bmB) (at_ : PySem.W.findIn X.K (.ref C) "__init__" = some (some (.ref fI))) (tI : PySem.W.typeIn X.K (.ref fI) = some (.type "function"))
    (F1 : FnOk X.prog X.w X.K X.mg X.base CX k fI fd ps sp) (hr : Room (k + 1) X.A) (hb : Binds X.K fd ps []) (hx : Passes CX X (fun _ _ _ => False)) (hg : Gl X x) (hm : X.mg x = some (.ref C)) (ha : PA X (e :: es) ta)
    (hdb : (x == ("__debug__" : Str)) = false := by decide) (he : starEach (e :: es) X.env = (false, eval e X.env) :: starEach es X.env := by rfl) (hpl : (backTo pos (starEach es X.env)).any (·.1) = false := by rfl) :
    L2N.PMk X (.Call (.Name x p) (e :: es) [] pos) (tOwn C sp ta) := by
  intro pins s σ H Q I h
  refine wpAny_Call_Name_kw (ld_glob I hg hm (PySem.W.callWith_K (h₀ := X.base) I.ok.mod.kin T.kC (thn (ha.run pos pins s σ H _ I h) ?_) he hpl) hdb)
  rintro us ⟨hp, g, dr, tk, os⟩ ⟨vs, H1, I1, rel, few, q⟩
  refine ⟨I1.kIn, ?_⟩
  show wpAny _ _ (call (.ref C) us) _ _ _
  obtain ⟨_, _, _, _, _, _, _, _, _, _, _, _, _, _, _, _, cls, tail⟩ := PySem.W.excInit_of I1.kIn T.form
  have good := q (hp.objs.size + 1) (I1.hok.fresh (Nat.le_succ _))
  have old : ∀ b o, hp.get? b = some o → ((hp.push (PySem.W.kdv_tup us)).push (HandSPX.excO C hp.objs.size)).get? b = some o := fun b o z => Heap.get?_push_of_some _ (Heap.get?_push_of_some _ z)
  have J := I1.laid (t' := tk) (a := hp.objs.size + 1) (o := exo (hp.objs.size + 1) C none) (h' := (hp.push (PySem.W.kdv_tup us)).push (HandSPX.excO C hp.objs.size)) old (Nat.le_succ _) (exo_ok (by heap_get))
  have all : Vals (V.ref (hp.objs.size + 1) :: vs) (Value.ref (hp.objs.size + 1) :: us) := .cons rfl rel
  have count : (Value.ref (hp.objs.size + 1) :: us).length = ps.length := all.length.symm.trans (F1.len _ _ _ _ good)
  have bound := hb _ (Value.ref (hp.objs.size + 1) :: us) J.kIn (by rw [List.append_nil]; exact count)
  rw [List.append_nil] at bound
  refine wpAny_call (T.base.makes cls tail (PySem.W.looks_findIn I1.kIn at_) (fun self => PySem.W.bind_fn I1.kIn self tI) (by rw [← Paired.length rel, sizeLine_eq]; omega)
    (codeAny_mono (F1.run _ X.stack _ _ ⟨Value.ref (hp.objs.size + 1) :: us, []⟩ (Value.ref (hp.objs.size + 1) :: us) _ _ (fun _ _ _ => False) (hr.make C us []) (J.env0.make C us []) bound all good) ?_))
  rintro (er | _ | _ | _ | v) s' out
  · exact hx pins σ _ _ er s' J out
  · exact False.elim out
  · exact False.elim out
  · exact False.elim out
  obtain ⟨_, H2, os2, bare2, un2, hok2, rv, rfl, d, fs, ea, ed, new, q2⟩ := out
  obtain ⟨h2, g2, d2, t2, os'⟩ := s'
  obtain ⟨t0, G, I3, sub, gone, there, na⟩ := mk_end0 (d2 := d2) (t2 := t2) I1 (Nat.le_succ _) old un2 hok2 os2 bare2 ea ed new
  exact ⟨rv, hp.objs.size + 1, _, _, ⟨G, g2, d2, t2, os'⟩, _, .ref C, some d, rfl, I3, sub, gone, there, ⟨rfl, rfl, fun vs z => by cases z; rfl⟩, rfl, rfl, na, rfl, bare2, raises_own T.exC T.tyC, q2⟩
end
/-! ### count of flat items -/
section
variable {X : Cx}
def rCntF (K : PySem.W.Frag) : V → List V → Hp → VK → Prop := fun x xs H Q => ∃ (a : Addr) (ys : List V) (y : V), x = .ref a ∧ xs = [y] ∧ SqL K H a ys ∧ flatV y = true ∧ ys.all flatV = true ∧ Q (.int (ys.countP fun z => eqV z y : Nat)) H
theorem countP_rel {y : V} : ∀ {ys : List V} {its : List Value}, Vals ys its → ys.all flatV = true → its.countP (eqU y) = ys.countP fun z => eqV z y
  | _, _, .nil, _ => rfl
  | z :: ys, u :: its, .cons r rest, flat => by
    have two := Bool.and_eq_true_iff.mp (show (flatV z && ys.all flatV) = true from flat)
    rw [List.countP_cons, List.countP_cons, countP_rel rest two.2, eqU_of r two.1]
theorem mt_cntF : MtR X "list.count" (rCntF X.K) := fun pins s σ H x xs v us Q I rx rxs h => by
  obtain ⟨a, ys, y, rfl, rfl, seq, fy, fys, q⟩ := h
  cases rx
  obtain ⟨u, rfl, ru⟩ := rxs.one
  obtain ⟨its, rel, ⟨⟨cls, dd, data, sl⟩, n, there, hc, _, hd⟩, _⟩ := I.list seq
  simp only at hc hd
  subst hc hd
  refine call_meets PySem.F.slot_list_count ⟨_, there, rfl⟩ PySem.F.entry_list_count (PySem.F.args_list_count_2 _ _) (SeqAt.list_countAt a its.toArray n dd sl u (eqU y)) ⟨there, fun z hz => mem_eqAt ru fy rel fys z (by simpa using hz), .int (ys.countP fun z => eqV z y : Nat), H, I.tok _, ⟨s.toks, ?_⟩, q⟩
  show Value.int ((its.toArray.toList.countP (eqU y) : Nat) : Int) s.toks = _
  rw [show its.toArray.toList = its from rfl, countP_rel rel fys]
end
/-! ### a def that is called with the exception that is handled -/
/-- what it keeps: its promise knows the exception's object -/
structure FnK (P : Program) (w : World) (K : PySem.W.Frag) (mg : Str → Option Value) (base : Heap) (CX : CXT) (k : Nat) (f : Addr) (fd : FuncData) (ps : List Str) (sp : Addr → Value → Option Addr → Sp) : Prop where
  count : ∀ a cls d vs H Q E, sp a cls d vs H Q E → vs.length = ps.length
  goes : ∀ (A : Around) (outer : List Env) (s : Shared) (H : Hp) (args : Args) (us : List Value) (vs : List V) (Q : VK) (E : XK) (p : Addr × Obj), L2H.RoomH k A → L2H.Hot1 A p → L2H.PinOk outer H s p → Env0 P w K mg base A outer s H →
    BindsTo s fd args (ps.zip us) → Vals vs us → sp p.1 p.2.cls p.2.dict vs H Q E → codeAny (model P w) A (.call (.ref f) args) (CR CX outer P w H s Q E) s
section
variable {P : Program} {w : World} {K : PySem.W.Frag} {mg : Str → Option Value} {base : Heap} {CX : CXT} {k : Nat} {f : Addr} {fd : FuncData} {N ps : List Str} {sp : Addr → Value → Option Addr → Sp} {x qual : Str} {params : Arguments} {body : List Stmt} {scope : Scope} {dvs : List V} {kws : List (Str × V)}
theorem okK (F : FunD K x qual params body scope dvs kws f fd) (S : FnScope N ps scope) (count : ∀ a cls d vs H Q E, sp a cls d vs H Q E → vs.length = ps.length)
    (inner : ∀ (cdv : Value) (A : Around) (outer : List Env) (s : Shared) (H : Hp) (vs : List V) (Q : VK) (E : XK) (p : Addr × Obj), L2H.Hot1 A p → L2H.RoomH k (A.deeper (envOfC qual scope s.heap.objs.size f cdv)) → sp p.1 p.2.cls p.2.dict vs H Q E →
      ∃ t, PSs (L2H.cxH CX P w K mg base N qual scope f cdv A outer s H E p) body t ∧ t { nx := fun _ H' => Q .non H', rt := Q } (L2.start N vs) H) : FnK P w K mg base CX (k + 1) f fd ps sp := by
  obtain ⟨oc, od, dV, kV, doc, pm, an, cdv, ct, osl, rfl, place, code, _, _⟩ := F.ex
  refine ⟨count, fun A outer s H args us vs Q E p room hot pin env bind vals good => ?_⟩
  obtain ⟨t, sound, holds⟩ := inner cdv A outer s H vs Q E p hot (room.deeper _) good
  have old : ∀ b o, base.get? b = some o → s.heap.get? b = some o := fun b o e => (env.bs b o e).1
  have kin := env.mod.kin.keeps old
  have slots : ∀ y ∈ ps.zip us, scope.names.lookup y.1 = some .local ∨ (scope.names.lookup y.1 = some .cell ∧ ((cellsFrom (s.heap.objs.size + 1) scope.names []).lookup y.1).isSome = true) := fun y hy =>
    (S.par y.1 (List.of_mem_zip (a := y.1) (b := y.2) hy).1).imp id fun c => ⟨c, PySem.W.cellsFrom_some _ _ _ (.inl c)⟩
  apply codeAny_call_function room.depth (kin _ _ place) rfl S.co S.gen rfl (PySem.W.codeRec_of kin code)
  apply bind
  refine wpAny_newFunctionEnv_cells S.kind slots ?_
  rintro _ rfl s1 step
  have inv := L2H.inv_startH (CX := CX) (E := E) S pin env (count _ _ _ _ _ _ _ good) vals step
  refine ⟨(env.mod.nolimit.keeps old).keeps step.toInCall.keep, codeAny_func (wpAny_mono (sound.run [] s1 (L2.start N vs) H _ inv holds) ?_ fun _ _ z => z)⟩
  rintro (_ | _ | _ | u) s' out
  · obtain ⟨_, H', J, done⟩ := out
    exact ⟨.non, H', J.os, J.bare, J.base, J.hok, rfl, done⟩
  · exact out.elim fun _ ⟨_, _, no⟩ => no.elim
  · exact out.elim fun _ ⟨_, _, no⟩ => no.elim
  · obtain ⟨v, _, H', J, rel, done⟩ := out
    exact ⟨v, H', J.os, J.bare, J.base, J.hok, rel, done⟩
end
section
variable {X : Cx} {CX : CXT} {k : Nat} {f : Addr} {fd : FuncData} {ps : List Str} {sp : Addr → Value → Option Addr → Sp} {x : Str} {q pos : Pos} {e : Expr} {es : List Expr} {t : TA} {a : Addr} {oe : Obj} {cls : Value} {d : Option Addr}
/-- f(e, ..) in a suite -/
def tCallK (sp : Sp) (t : TA) : TE := fun σ H Q => t σ H fun vs H1 => sp vs H1 Q fun _ _ _ => False
theorem pe_callK (F : FnK X.prog X.w X.K X.mg X.base CX k f fd ps sp) (hr : L2H.RoomH k X.A) (hot : L2H.Hot1 X.A (a, oe)) (hp : (a, oe) ∈ X.pn) (hz : L2N.Zn cls d oe) (hg : Gl X x) (hm : X.mg x = some (.ref f)) (hk : PySem.W.keepIn X.K (.ref f) = true) (hb : Binds X.K fd ps []) (hx : Passes CX X fun _ _ _ => False)
    (ha : PA X (e :: es) t) (hdb : (x == ("__debug__" : Str)) = false := by decide) (he : starEach (e :: es) X.env = (false, eval e X.env) :: starEach es X.env := by rfl) (hpl : (backTo pos (starEach es X.env)).any (·.1) = false := by rfl) :
    PE X (.Call (.Name x q) (e :: es) [] pos) (tCallK (sp a cls d) t) := ⟨fun pins s σ H Q I h => by
  obtain ⟨rfl, rfl, _⟩ := hz
  refine wpAny_Call_Name_kw (ld_glob I hg hm (PySem.W.callWith_K (h₀ := X.base) I.ok.mod.kin hk (thn (ha.run pos pins s σ H _ I h) ?_) he hpl) hdb)
  rintro us s1 ⟨vs, H1, I1, rel, good⟩
  refine ⟨I1.kIn, ?_⟩
  have count : us.length = ps.length := rel.length.symm.trans (F.count _ _ _ _ _ _ _ good)
  have bound := hb s1 us I1.kIn (by rw [List.append_nil]; exact count)
  rw [List.append_nil] at bound
  obtain ⟨here, free, noLoc, noFs, noCell⟩ := I1.pin (a, oe) (List.mem_append_left _ hp)
  have pin : L2H.PinOk X.stack H1 s1 (a, oe) := ⟨here, free, fun z => (List.mem_cons.mp (I1.stkSub a z)).elim noLoc noFs, noCell⟩
  refine wpAny_call (codeAny_mono (F.goes X.A X.stack s1 H1 ⟨us, []⟩ us vs Q _ (a, oe) hr hot pin I1.env0 bound rel good) ?_)
  rintro (er | _ | _ | _ | u) s' out
  · exact hx pins σ H1 s1 er s' I1 out
  · exact False.elim out
  · exact False.elim out
  · exact False.elim out
  · exact I1.after out⟩
end
/-! ### isinstance of the exception that is handled -/
section
variable {X : Cx} {a : Addr} {oe : Obj} {cls : Value} {d : Option Addr}
def rIsK (K : PySem.W.Frag) (a : Addr) (cls : Value) (d : Option Addr) : List V → Hp → VK → Prop := fun xs H Q => ∃ (D : Addr) (c : V) (cv : Value) (b : Bool) (dd : Addr) (fs : List (Str × V)), cls = .ref D ∧ xs = [.ref a, c] ∧ L2.ExcC K D ∧ (∀ u, RelV c u → u = cv) ∧ PySem.W.kitOne K (.ref D) cv = some b ∧ d = some dd ∧ H dd = some (.xd fs) ∧ Q (.bl b) H
theorem call_isK (hp : (a, oe) ∈ X.pn) (hc : oe.cls = cls) (hd : oe.dict = d) (flds : ∃ vs, oe.data = .fields vs) : CallR X (.builtin "isinstance") (rIsK X.K a cls d) := fun pins s σ H xs us Q I r h => by
  obtain ⟨D, c, cv, b, dd, fs, rfl, rfl, C, only, kit, rfl, hx, q⟩ := h
  cases r with
  | cons r1 r2 =>
    cases r1
    obtain ⟨u, rfl, ru⟩ := Vals.one r2
    cases only u ru
    obtain ⟨vs, hv⟩ := flds
    obtain ⟨here, _⟩ := I.pin (a, oe) (List.mem_append_left _ hp)
    obtain ⟨mA, ⟨od, es, ep, there, _⟩, _⟩ := (I.hok dd _ hx : ObjOk X.prog X.w H s.heap dd (.xd fs))
    have inst : PySem.W.InstAt s.heap a oe D (some od) := ⟨here, hc, by unfold PySem.W.notCls; rw [hv] <;> rfl, by rw [hd]; exact there⟩
    obtain ⟨cd, hcd, _⟩ := PySem.W.any_some C.hd
    exact PySem.W.kia_one (PySem.W.kitx_exc (by rw [hcd]; rfl) C.hg C.hk C.hs C.ha C.hn C.ht C.hm) I.kIn inst kit (fun z => nomatch z) fun tk => ⟨.bl b, H, I.kept (t' := tk) fun _ _ z => z, rfl, q⟩
end
/-! ### calls that may be refused, in a try -/
section
variable {X : Cx} {W : WX} {k : Nat} {f C : Addr} {fd : FuncData} {ps : List Str} {sp : Sp} {x m : Str} {p pos apos : Pos} {e o : Expr} {es : List Expr} {ta : TE} {t : TA}
/-- C(e, ..) -/
def tMakeX (C : Addr) (sp : Sp) (W : WX) (t : TA) : TE := fun σ H Q => t σ H fun vs H1 => ∀ x dx, H1 x = none → H1 dx = none → dx ≠ x →
  sp (.ref x :: vs) (upd (upd H1 dx (.own x)) x (.ins C dx [])) (fun v H2 => v = .non ∧ Q (.ref x) H2) fun cls d H' => W cls d σ H'
theorem pe_makeX (M : Mk X.K C f) (F : FnOk X.prog X.w X.K X.mg X.base (L2N.CX X.prog X.w) k f fd ps sp) (hr : Room (k + 1) X.A) (hg : Gl X x) (hm : X.mg x = some (.ref C)) (hb : Binds X.K fd ps []) (tk : L2N.Takes X W)
    (ha : PA X (e :: es) t) (hdb : (x == ("__debug__" : Str)) = false := by decide) (he : starEach (e :: es) X.env = (false, eval e X.env) :: starEach es X.env := by rfl) (hpl : (backTo pos (starEach es X.env)).any (·.1) = false := by rfl) :
    PE X (.Call (.Name x p) (e :: es) [] pos) (tMakeX C sp W t) := ⟨fun pins s σ H Q I h => by
  refine wpAny_Call_Name_kw (ld_glob I hg hm (PySem.W.callWith_K (h₀ := X.base) I.ok.mod.kin M.kp (thn (ha.run pos pins s σ H _ I h) ?_) he hpl) hdb)
  rintro us s1 ⟨vs, H1, I1, rel, q⟩
  refine ⟨I1.kIn, ?_⟩
  have good := q (s1.heap.objs.size + 1) s1.heap.objs.size (I1.hok.fresh (Nat.le_succ _)) (I1.hok.fresh (Nat.le_refl _)) (Nat.ne_of_lt (Nat.lt_succ_self _))
  have J := Inv.made (C := C) I1
  have all : Vals (V.ref (s1.heap.objs.size + 1) :: vs) (Value.ref (s1.heap.objs.size + 1) :: us) := .cons rfl rel
  have count : (Value.ref (s1.heap.objs.size + 1) :: us).length = ps.length := all.length.symm.trans (F.len _ _ _ _ good)
  have bound := hb _ (Value.ref (s1.heap.objs.size + 1) :: us) J.kIn (by rw [List.append_nil]; exact count)
  rw [List.append_nil] at bound
  refine wpAny_call (make_map (f := f) I1.kIn M.makes M.init (beq_iff_eq.mp M.fn) (codeAny_mono (F.run _ X.stack _ _ ⟨Value.ref (s1.heap.objs.size + 1) :: us, []⟩ _ _ _ _ (hr.make C us []) (J.env0.make C us []) bound all good) ?_))
  rintro (er | _ | _ | _ | u) s' out
  · exact tk er s' (L2N.XE.of_call J (fun _ _ _ z => z) out)
  · exact False.elim out
  · exact False.elim out
  · exact False.elim out
  obtain ⟨_, H', I3, rv, rfl, done⟩ := J.after out
  exact ⟨rv, .ref (s1.heap.objs.size + 1), H', I3, rfl, done⟩⟩
/-- o.m(e, ..) -/
def tMethX (C : Addr) (m : Str) (sp : Sp) (W : WX) (ta : TE) (t : TA) : TE := fun σ H Q => ta σ H fun x H1 => ∃ a dx fs, x = .ref a ∧ H1 a = some (.ins C dx fs) ∧ fs.lookup m = none ∧ t σ H1 fun vs H2 => sp (x :: vs) H2 Q fun cls d H' => W cls d σ H'
theorem pe_methX {pl : Sem Bool} (he : PE X o ta) (c : Cls X.K C) (hm : Meth X.K C m f) (F : FnOk X.prog X.w X.K X.mg X.base (L2N.CX X.prog X.w) k f fd ps sp) (hr : Room k X.A) (hb : Binds X.K fd ps []) (tk : L2N.Takes X W) (ha : PA X (e :: es) t)
    (hst : starEach (e :: es) X.env = (false, eval e X.env) :: starEach es X.env := by rfl) (hpl : (backTo pos (starEach es X.env)).any (·.1) = false := by rfl)
    (ht : Reads X o m apos (e :: es) [] pos pl := by intro _ _ _ h; exact PySem.W.methodCall_KW h) :
    PE X (.Call (.Attribute o m apos) (e :: es) [] pos) (tMethX C m sp W ta t) := ⟨fun pins s σ H Q I h => by
  refine ht (thn (he.run pins s σ H _ I h) ?_)
  rintro _ s1 ⟨_, H1, I1, rx, a, dx, fs, rfl, here, no, q⟩
  cases rx
  refine getmeth_ok I1 here c hm no (PySem.W.callWith_K (first := [.ref a]) (h₀ := X.base) I.ok.mod.kin hm.kp (thn (ha.run pos pins s1 σ H1 _ I1 q) ?_) hst hpl)
  rintro us s2 ⟨vs, H2, I2, rel, good⟩
  exact ⟨I2.kIn, run_fnS (us := .ref a :: us) (vs := .ref a :: vs) (E := WE W) F hr hb (L2N.passAt tk σ) I2 (.cons rfl rel) good⟩⟩
end
section
variable {X : Cx} {W : WX} {k : Nat} {f C : Addr} {fd : FuncData} {ps ks : List Str} {sp : Sp} {m : Str} {pos apos : Pos} {o : Expr} {ta : TE} {tk : TA} {kws : List Keyword} {g : List Value → List Value → List Value} {gV : List V → List V → List V}
/-- o.m(k = v, ..) -/
def tMethKX (C : Addr) (m : Str) (n : Nat) (sp : Sp) (gV : List V → List V → List V) (W : WX) (ta : TE) (tk : TA) : TE := fun σ H Q => ta σ H fun x H1 => ∃ a dx fs, x = .ref a ∧ H1 a = some (.ins C dx fs) ∧ fs.lookup m = none ∧ tk σ H1 fun zs H2 => zs.length = n ∧ sp (gV [x] zs) H2 Q fun cls d H' => W cls d σ H'
theorem pe_methKX {pl : Sem Bool} {CX : CXT} (he : PE X o ta) (c : Cls X.K C) (hm : Meth X.K C m f) (F : FnOk X.prog X.w X.K X.mg X.base CX k f fd ps sp) (hr : Room k X.A) (hb : KBn X.K fd ps 1 ks g gV) (hx : ∀ σ, PassesAt CX X σ (WE W σ)) (hkw : PK X kws tk)
    (hall : (backToKw pos (keywordEach kws X.env)).all (·.1.isSome) = true := by rfl) (hks : (backToKw pos (keywordEach kws X.env)).filterMap (·.1) = ks := by rfl)
    (hpl : ((backTo pos (starEach [] X.env)).any (·.1) || (backToKw pos (keywordEach kws X.env)).any (·.1.isNone)) = false := by rfl)
    (ht : Reads X o m apos [] kws pos pl := by intro _ _ _ h; exact PySem.W.methodCall_KW h) :
    PE X (.Call (.Attribute o m apos) [] kws pos) (tMethKX C m ks.length sp gV W ta tk) := ⟨fun pins s σ H Q I h => by
  refine ht (thn (he.run pins s σ H _ I h) ?_)
  rintro _ s1 ⟨_, H1, I1, rx, a, dx, fs, rfl, here, no, q⟩
  cases rx
  refine getmeth_ok I1 here c hm no (PySem.W.callWith_KW0 (first := [.ref a]) (h₀ := X.base) I.ok.mod.kin hm.kp hall (thn (hkw.run pos pins s1 σ H1 _ I1 q) ?_) hpl)
  rintro ws s2 ⟨zs, H2, I2, rel, count, good⟩
  refine ⟨I2.kIn, ?_⟩
  rw [hks, List.append_nil]
  have one : Vals [V.ref a] [Value.ref a] := .cons rfl .nil
  refine wpAny_call (codeAny_mono (F.run X.A X.stack s2 H2 ⟨[.ref a], ks.zip ws⟩ (g [.ref a] ws) (gV [.ref a] zs) Q _ hr I2.env0 (hb.to s2 [.ref a] ws I2.kIn rfl (rel.length.symm.trans count)) (hb.rel one rel) good) ?_)
  rintro (er | _ | _ | _ | u) s' out
  · exact hx σ pins H2 s2 er s' I2 out
  · exact False.elim out
  · exact False.elim out
  · exact False.elim out
  · exact I2.after out⟩
end
/-! ### what is let out by nobody, what is hot -/
theorem takes0 {X : Cx} : L2N.Takes X fun _ _ _ _ => False := fun _ _ ⟨_, _, _, _, _, _, _, _, _, _, _, _, _, _, _, _, no⟩ => no.elim
theorem passF {X : Cx} : Passes (L2N.CX X.prog X.w) X fun _ _ _ => False := fun _ _ _ _ _ _ _ ⟨_, _, _, _, _, _, _, _, _, _, _, _, no⟩ => no.elim
theorem hot1 {A : Around} {a : Addr} {oe : Obj} {cls : Value} {d : Option Addr} (hz : L2N.Zn cls d oe) (hf : ∃ vs, oe.data = .fields vs) : L2H.Hot1 (A.mark (some (.ref a))) (a, oe) := by
  obtain ⟨vs, hd⟩ := hf
  exact ⟨rfl, vs, hd, hz.2.2 vs hd⟩
/-! ### len of an own instance -/
section
variable {X : Cx} {CX : CXT} {n : Nat} {f C : Addr} {fd : FuncData} {ps : List Str} {sp : Sp} {E : XK}
def rLenO (C : Addr) (sp : Sp) (E : XK) : List V → Hp → VK → Prop := fun xs H Q => ∃ a dx fs, xs = [.ref a] ∧ H a = some (.ins C dx fs) ∧ sp xs H (fun v H' => ∃ z : Nat, v = .int z ∧ z ≤ 1000 ∧ Q (.int z) H') E
theorem call_lenO (F : FnOk X.prog X.w X.K X.mg X.base CX n f fd ps sp) (hs : PySem.W.findIn X.K (.ref C) "__len__" = some (some (.ref f))) (hf : PySem.W.isFn X.K (.ref f) = true) (hb : Binds X.K fd ps []) (hx : Passes CX X E) (hr : Room (n + 1) X.A) :
    CallR X (.builtin "len") (rLenO C sp E) := fun pins s σ H xs us Q I r h => by
  obtain ⟨a, dx, fs, rfl, ha, q⟩ := h
  cases Vals.ref1 r
  obtain ⟨mA, J, _⟩ := ins_get I.hok ha
  obtain ⟨od, J, _⟩ := J.look
  obtain ⟨m, fr⟩ := I.fr
  have sb : L2.Sub X (n + 1) X.A := ⟨hr, rfl⟩
  refine PySem.W.len_K fr I.ok.mod.kin J hs hf (wpAny_mono (UO.call_sub F hb hx sb.in1 I (show Vals [V.ref a] [Value.ref a] from .cons rfl .nil) q) ?_ fun _ _ x => x)
  rintro v s' ⟨_, H', I', rv, z, rfl, few, done⟩
  obtain ⟨t, rfl⟩ := rv
  exact ⟨⟨by omega, by omega⟩, .int z, H', I'.tok _, ⟨_, rfl⟩, done⟩
end
/-! ### what the top leaves of an own exception class -/
def leTail : List Value := [.type "LookupError", .type "Exception", .type "BaseException", .type "object"]
def ownB (K : PySem.W.Frag) (C f : Addr) (bmB : List Value) (newId : String) : Bool :=
  PySem.W.excInitIn K C bmB newId && (PySem.W.excOver K C bmB && (PySem.W.hasDictIn K C && (decide (PySem.W.findIn K (.ref C) "__setattr__" = some (some (.builtin "object.__setattr__"))) && (decide (PySem.W.subIn K (.ref C) (.type "BaseException") = some true) &&
    (decide (PySem.W.typeIn K (.ref C) = some (.type "type")) && (PySem.W.keepIn K (.ref C) && (decide (PySem.W.findIn K (.ref C) "__init__" = some (some (.ref f))) && decide (PySem.W.typeIn K (.ref f) = some (.type "function")))))))))
structure OwnY (K : PySem.W.Frag) (C f : Addr) (B newId initId : String) (bmB : List Value) : Prop where
  own : OwnX K C B newId initId bmB
  init : PySem.W.findIn K (.ref C) "__init__" = some (some (.ref f))
  fn : PySem.W.typeIn K (.ref f) = some (.type "function")
theorem ownB_ok {K : PySem.W.Frag} {C f : Addr} {B newId initId : String} {bmB : List Value} (base : UE.BaseM newId initId bmB) (store : StoreFacts B bmB "object.__setattr__" "object") (h : ownB K C f bmB newId = true) : OwnY K C f B newId initId bmB := by
  unfold ownB at h
  simp only [Bool.and_eq_true, decide_eq_true_eq] at h
  obtain ⟨h1, h2, h3, h4, h5, h6, h7, h8, h9⟩ := h
  exact ⟨⟨base, store, h1, h2, h3, h4, h5, h6, h7⟩, h8, h9⟩
def asksB (K : PySem.W.Frag) (C : Addr) : Bool :=
  decide (PySem.W.findIn K (.ref C) "__getattribute__" = some (some (.builtin "BaseException.__getattribute__"))) && (decide (PySem.W.findIn K (.ref C) "__getattr__" = some none) && (decide (PySem.W.subIn K (.ref C) (.type "BaseException") = some true) && (PySem.W.hasDictIn K C &&
    (decide (PySem.W.findIn K (.ref C) "__class__" = some (some (.builtin "object.__class__"))) && (decide (PySem.W.specialIn K (.builtin "object.__class__") "__get__" = some (some (.builtin "getset_descriptor.__get__"))) && (decide (PySem.W.takesIn K (.builtin "object.__class__") = some true) &&
      (decide (PySem.W.mroIn K C (.type "object") = some true) && decide (PySem.W.exmOne K (.ref C) (.ref C) = some true))))))))
structure Asks (K : PySem.W.Frag) (C : Addr) : Prop where
  is : L2.ExcC K C
  fld : XfC K C
  exm : PySem.W.exmOne K (.ref C) (.ref C) = some true
theorem asksB_ok {K : PySem.W.Frag} {C : Addr} (h : asksB K C = true) : Asks K C := by
  unfold asksB at h
  simp only [Bool.and_eq_true, decide_eq_true_eq] at h
  obtain ⟨h1, h2, h3, h4, h5, h6, h7, h8, h9⟩ := h
  exact ⟨⟨h1, h2, h3, h4, h5, h6, h7, h8⟩, ⟨h1, h2, h3, h4⟩, h9⟩
def noB (K : PySem.W.Frag) (C : Addr) (f : Str) : Bool := decide (PySem.W.findIn K (.ref C) f = some none)
def kitB (K : PySem.W.Frag) (C : Addr) (c : Value) (b : Bool) : Bool := decide (PySem.W.kitOne K (.ref C) c = some b)
end UX
namespace UX
open PySem PySem.Spec PyProof.Rows L2
theorem passAt0 {X : Cx} {σ : L2.St} : PassesAt CX0 X σ (WE (fun _ _ _ _ => False) σ) := fun _ _ _ _ _ _ no => no.elim
/-- with a lock or, where another holds one already, without -/
def tLkE (t : TE) : TE := fun σ H Q => tLockE t σ H Q ∨ t σ H Q
theorem pe_lk {X : Cx} {e : Expr} {t : TE} (h : PE X e t) : PE X e (tLkE t) := ⟨fun pins s σ H Q I hw => hw.elim ((pe_lock h).run pins s σ H Q I) (h.run pins s σ H Q I)⟩
/-- which __init__ a built-in class has -/
def viB (K : PySem.W.Frag) (b i : String) : Bool := match PySem.W.findCls K (.type b) (.type "type") "__init__" with
  | some (.val v) => decide (v = .builtin i)
  | _ => false
theorem viB_ok {K : PySem.W.Frag} {b i : String} (h : viB K b i = true) : PySem.W.findCls K (.type b) (.type "type") "__init__" = some (.val (.builtin i)) := by
  unfold viB at h
  split at h
  · rename_i v e
    rw [e, of_decide_eq_true h]
  · cases h
/-! ### bool of an own instance that has a len -/
section
variable {X : Cx} {CX : CXT} {n : Nat} {f C : Addr} {fd : FuncData} {ps : List Str} {sp : Sp} {E : XK}
def rBoolO (C : Addr) (sp : Sp) (E : XK) : List V → Hp → VK → Prop := fun xs H Q => ∃ a dx fs, xs = [.ref a] ∧ H a = some (.ins C dx fs) ∧ sp xs H (fun v H' => ∃ z : Nat, v = .int z ∧ z ≤ 1000 ∧ Q (.bl ((z : Int) != 0)) H') E
/-- whether it is so, by its len -/
theorem truthy_len {prog : Program} {w : World} {A : Around} {K : PySem.W.Frag} {s : Shared} {a C f : Addr} {ox : Obj} {od : Option Obj} {Q : Bool → Shared → Prop} {E : Value → Shared → Prop} (X : K.In s.heap) (I : PySem.W.InstAt s.heap a ox C od)
    (hb : PySem.W.findIn K (.ref C) "__bool__" = some none) (hs : PySem.W.findIn K (.ref C) "__len__" = some (some (.ref f))) (hf : PySem.W.isFn K (.ref f) = true)
    (h : wpAny (model prog w) A.in1 (call (.ref f) [.ref a]) (fun r s' => ∃ (z : Nat) (t : Tok), r = .int z t ∧ z ≤ 1000 ∧ ∀ tk, Q ((z : Int) != 0) { s' with toks := tk }) E s) : wpAny (model prog w) A (truthy (.ref a)) Q E s := by
  have no : ∀ {Q' : Option Value → Shared → Prop}, Q' none s → wpAny (model prog w) A (specialOf (.ref a) "__bool__") Q' E s := fun q => wpAny_bind (I.type.here ((PySem.W.looks_findIn X hb).here q))
  have yes : ∀ {Q' : Option Value → Shared → Prop}, Q' (some (.ref f)) s → wpAny (model prog w) A (specialOf (.ref a) "__len__") Q' E s := fun q => wpAny_bind (I.type.here ((PySem.W.looks_findIn X hs).here q))
  have len : wpAny (model prog w) A.in1 (Builtin.«len» ⟨[.ref a], []⟩) (fun fin s' => ∃ v, fin = .done (.ret v) ∧ ∃ (z : Nat) (t : Tok), v = .int z t ∧ Q ((z : Int) != 0) s') E s := by
    unfold Builtin.«len»
    refine wpAny_bind (m := oneArg _ _) (wpAny_pure (wpAny_bind (m := callSpecial? _ _) (PySem.W.special_fn X I hs (beq_iff_eq.mp hf) (wpAny_mono h ?_ fun _ _ y => y))))
    rintro r s' ⟨z, t, rfl, few, done⟩
    have n0 : ¬ (z : Int) < 0 := by omega
    have n1 : ¬ (z : Int) ≥ 2 ^ 63 := by omega
    refine wpAny_bind (wpAny_holding (wpAny_pure (wpAny_bind (wpAny_letGo ?_))))
    dsimp only
    rw [if_neg n0, if_neg n1]
    exact wpAny_bind (wpAny_mkInt (wpAny_pure ⟨_, rfl, z, _, rfl, done _⟩))
  unfold truthy
  refine wpAny_bind (m := callSpecial? _ _) (wpAny_bind (no (wpAny_pure (wpAny_bind (yes ?_)))))
  rw [if_neg (by simp)]
  refine wpAny_bind (PyProof.Rows.runValue_entry PySem.entry_len ?_)
  rw [Around.under_plainId PySem.plain_len _]
  refine wpAny_mono len ?_ fun _ _ y => y
  rintro fin s' ⟨v, rfl, z, t, rfl, done⟩
  exact ⟨_, rfl, wpAny_pure done⟩
theorem call_boolO (F : FnOk X.prog X.w X.K X.mg X.base CX n f fd ps sp) (hno : PySem.W.findIn X.K (.ref C) "__bool__" = some none) (hs : PySem.W.findIn X.K (.ref C) "__len__" = some (some (.ref f))) (hf : PySem.W.isFn X.K (.ref f) = true) (hb : Binds X.K fd ps []) (hx : Passes CX X E) (hr : Room (n + 4) X.A) :
    CallR X (.type "bool") (rBoolO C sp E) := fun pins s σ H xs us Q I r h => by
  obtain ⟨a, dx, fs, rfl, ha, q⟩ := h
  cases Vals.ref1 r
  refine PySem.callType_newIn PySem.F.called_bool PySem.F.newNe_bool (PySem.F.typeCall_bool_1 _) (PySem.F.newCall_bool_1 _) (fun obj => PySem.F.args_object_init_2 obj _) PySem.F.entry_bool_new (S := fun A R s => wpAny (model X.prog X.w) A.in1 (truthy (.ref a)) (fun b s' => R (.ok (.ret (.bool b))) s') (fun e s' => R (.error e) s') s) (MeetsIn.of_wp fun A R s hs' => ?_) ?_
  · obtain ⟨hp, g, d, tk, os⟩ := s
    have f1 := PySem.F.conv_sub_bool
    repeat (any_goals (first | assumption | (with_reducible refine wpAny_mono hs' (fun b s' hb => ?_) fun _ _ x => x) | wp_step))
    all_goals first | exact ⟨_, rfl, hb⟩ | skip
  · obtain ⟨mA, J, _⟩ := ins_get I.hok ha
    obtain ⟨od, J, _⟩ := J.look
    have sb : L2.Sub X (n + 4) X.A := ⟨hr, rfl⟩
    refine truthy_len I.kIn J hno hs hf (wpAny_mono (UO.call_sub F hb hx (sb.in1.in1.in1.mono (Nat.le_succ _)) I (show Vals [V.ref a] [Value.ref a] from .cons rfl .nil) q) ?_ fun _ _ x => x)
    rintro v s' ⟨_, H', I', rv, z, rfl, few, done⟩
    obtain ⟨t, rfl⟩ := rv
    exact ⟨z, t, rfl, few, fun tk => ⟨rfl, .bl _, H', I'.tok _, rfl, done⟩⟩
end
/-- a built-in method's reading, by the fragment's own name (within a comprehension) -/
theorem pe_bmAs {X : Cx} {K : PySem.W.Frag} {e : Expr} {T : String} {r : V → List V → Hp → VK → Prop} {to : TE} {t : TA} (hK : X.K = K) (h : PE X e (tBM X.K T r to t)) : PE X e (tBM K T r to t) := hK ▸ h
/-! ### an own class whose __init__ is that of its built-in base -/
section
variable {X : Cx} {e : Expr} {es : List Expr} {ta : TA} {x : Str} {p1 p2 pos : Pos} {B newId initId : String} {bmB : List Value}
/-- D.__init__(self, ..), D an own class that has its __init__ of the built-in class B -/
theorem pe_initO {pl : Sem Bool} {D : Addr} (hg : Gl X x) (hm : X.mg x = some (.ref D)) (rd : PySem.W.readsIn X.K D (.type "type") = true) (ga : PySem.W.specialIn X.K (.ref D) "__getattribute__" = some (some (.builtin "type.__getattribute__"))) (at_ : PySem.W.findCls X.K (.ref D) (.type "type") "__init__" = some (.val (.builtin initId))) (hi : PySem.W.handedIn (.builtin initId) = true) (ha : PA X (e :: es) ta)
    (hc : Reads X (.Name x p1) "__init__" p2 (e :: es) [] pos pl := by intro _ _ _ h; exact PySem.W.methodCall_KW h)
    (hdb : (x == ("__debug__" : Str)) = false := by decide) (he : starEach (e :: es) X.env = (false, eval e X.env) :: starEach es X.env := by rfl) (hpl : (backTo pos (starEach es X.env)).any (·.1) = false := by rfl) : PE X (.Call (.Attribute (.Name x p1) "__init__" p2) (e :: es) [] pos) (tInit X.K B newId initId bmB ta) := ⟨fun pins s σ H Q I h => by
  refine hc (ld_glob I hg hm ?_ hdb)
  refine PySem.W.method_cls I.kIn ga (PySem.W.cls_value I.kIn rd at_ hi ?_)
  refine callWith_method1 (thn (ha.run pos pins _ σ H _ (I.tok _) h) ?_) he hpl
  rintro us s1 ⟨_, H1, I1, rel, a, C, ws, rfl, few, T, here, q⟩
  cases rel with
  | cons ra rest =>
    cases ra
    exact init1 T I1 here (by rw [← Paired.length rest, sizeLine_eq]; omega) fun s' J => ⟨.non, H1, J, rfl, q⟩⟩
end
def veTail : List Value := [.type "ValueError", .type "Exception", .type "BaseException", .type "object"]
/-- what D.__init__ comes to -/
def baseB (K : PySem.W.Frag) (D : Addr) (i : String) : Bool := PySem.W.readsIn K D (.type "type") && (decide (PySem.W.specialIn K (.ref D) "__getattribute__" = some (some (.builtin "type.__getattribute__"))) && (match PySem.W.findCls K (.ref D) (.type "type") "__init__" with
  | some (.val v) => decide (v = .builtin i)
  | _ => false))
structure BaseY (K : PySem.W.Frag) (D : Addr) (i : String) : Prop where
  rd : PySem.W.readsIn K D (.type "type") = true
  ga : PySem.W.specialIn K (.ref D) "__getattribute__" = some (some (.builtin "type.__getattribute__"))
  at_ : PySem.W.findCls K (.ref D) (.type "type") "__init__" = some (.val (.builtin i))
theorem baseB_ok {K : PySem.W.Frag} {D : Addr} {i : String} (h : baseB K D i = true) : BaseY K D i := by
  unfold baseB at h
  obtain ⟨h1, h⟩ := He.ba h
  obtain ⟨h2, h3⟩ := He.ba h
  refine ⟨h1, of_decide_eq_true h2, ?_⟩
  split at h3
  · rename_i v e
    rw [e, of_decide_eq_true h3]
  · cases h3
/-! ### a Hook whose fragment holds the interpreter's own statics too -/
def frC (n : Nat) (g : Addr → Option Obj) : PySem.W.Frag := He.frG g (He.asD g n ++ [cStatics])
def obsC (n : Nat) (fa : List He.Fa) (fn : List He.DefD) (ex : PySem.W.Frag → Bool) (g : Addr → Option Obj) : UO.AlB := (He.obsD fa fn (frC n g), ex (frC n g))
def hookC (n : Nat) (fa : List He.Fa) (fn : List He.DefD) (ex : PySem.W.Frag → Bool) : PySem.W.Hook where
  α := UO.AlB
  obs := fun s => obsC n fa fn ex s.heap.get?
  val := fun _ => (He.valD fn, true)
  says := fun _ h => ∃ K : PySem.W.Frag, K.In h ∧ He.SaysD fa fn K ∧ ex K = true
  of := fun _ _ e => ⟨_, He.frG_in, congrArg (fun z : UO.AlB => z.1) e, congrArg (fun z : UO.AlB => z.2) e⟩
  keeps := fun _ _ _ ⟨K, hK, c⟩ k => ⟨K, PySem.W.Frag.In.keeps hK k, c⟩
theorem obsC_eq {n : Nat} {fa : List He.Fa} {fn : List He.DefD} {ex : PySem.W.Frag → Bool} {g : Addr → Option Obj} {s : Shared} (h : ∀ a, g a = s.heap.get? a) : obsC n fa fn ex g = (hookC n fa fn ex).obs s := by
  obtain rfl : g = s.heap.get? := funext h
  rfl
end UX
/-! own layer: refusals of own classes that have no __init__ of their own -/
namespace UF
open PySem PySem.Spec PyProof.Rows L2
def veTail : List Value := [.type "ValueError", .type "Exception", .type "BaseException", .type "object"]
/-- what the written part says of such a class -/
structure Bare (K : PySem.W.Frag) (C : Addr) : Prop where
  inn : PySem.W.excIn K C veTail "ValueError.__new__" = true
  kC : PySem.W.keepIn K (.ref C) = true
  exC : PySem.W.subIn K (.ref C) (.type "BaseException") = some true
  tyC : PySem.W.typeIn K (.ref C) = some (.type "type")
def bareB (K : PySem.W.Frag) (C : Addr) : Bool := PySem.W.excIn K C veTail "ValueError.__new__" && (PySem.W.keepIn K (.ref C) && (decide (PySem.W.subIn K (.ref C) (.type "BaseException") = some true) && decide (PySem.W.typeIn K (.ref C) = some (.type "type"))))
theorem bareB_ok {K : PySem.W.Frag} {C : Addr} (h : bareB K C = true) : Bare K C := by
  unfold bareB at h
  simp only [Bool.and_eq_true, decide_eq_true_eq] at h
  exact ⟨h.1, h.2.1, h.2.2.1, h.2.2.2⟩
section
variable {X : Cx} {C : Addr} {e : Expr} {es : List Expr} {ta : TA} {x : Str} {p pos : Pos}
/-- C(e, ..), made to be raised -/
def tBare (C : Addr) (ta : TA) : L2.St → Hp → XK → Prop := fun σ H Q => ta σ H fun vs H1 => vs.length ≤ 1000 ∧ Q (.ref C) none H1
theorem pm_bare (T : Bare X.K C) (hg : Gl X x) (hm : X.mg x = some (.ref C)) (ha : PA X (e :: es) ta) (hdb : (x == ("__debug__" : Str)) = false := by decide) (he : starEach (e :: es) X.env = (false, eval e X.env) :: starEach es X.env := by rfl) (hpl : (backTo pos (starEach es X.env)).any (·.1) = false := by rfl) :
    L2N.PMk X (.Call (.Name x p) (e :: es) [] pos) (tBare C ta) := by
  intro pins s σ H Q I h
  refine wpAny_Call_Name_kw (ld_glob I hg hm (PySem.W.callWith_K (h₀ := X.base) I.ok.mod.kin T.kC (thn (ha.run pos pins s σ H _ I h) ?_) he hpl) hdb)
  rintro us s1 ⟨vs, H1, I1, rel, few, q⟩
  refine ⟨I1.kIn, ?_⟩
  show wpAny _ _ (call (.ref C) us) _ _ _
  obtain ⟨bm, N, nm, qn, bs, hdct, sn, sub, ab, col, dd, k0, k1, k2, k3, k5, mN, hC, hN, hni, all⟩ := exc_obj I1.kIn T.inn
  refine wpAny_call_exc_subT F.excBase_ValueError all hC hN hni (fun h' e made => ?_) (by rw [← Paired.length rel, sizeLine_eq]; omega)
  exact L2N.mk_of I1 made (raises_own T.exC T.tyC) q (I1.hok.gone made.new)
end
/-! ### isinstance of the exception that is handled, whether it has a dict or not -/
section
variable {X : Cx} {a : Addr} {oe : Obj} {cls : Value} {d : Option Addr}
def rIsE (K : PySem.W.Frag) (a : Addr) (cls : Value) (d : Option Addr) : List V → Hp → VK → Prop := fun xs H Q => ∃ (D : Addr) (c : V) (cv : Value) (b : Bool), cls = .ref D ∧ xs = [.ref a, c] ∧ L2.ExcC K D ∧ (∀ u, RelV c u → u = cv) ∧ PySem.W.kitOne K (.ref D) cv = some b ∧ (d = none ∨ ∃ dd fs, d = some dd ∧ H dd = some (.xd fs)) ∧ Q (.bl b) H
theorem call_isE (hp : (a, oe) ∈ X.pn) (hc : oe.cls = cls) (hd : oe.dict = d) (flds : ∃ vs, oe.data = .fields vs) : CallR X (.builtin "isinstance") (rIsE X.K a cls d) := fun pins s σ H xs us Q I r h => by
  obtain ⟨D, c, cv, b, rfl, rfl, C, only, kit, hx, q⟩ := h
  cases r with
  | cons r1 r2 =>
    cases r1
    obtain ⟨u, rfl, ru⟩ := Vals.one r2
    cases only u ru
    obtain ⟨vs, hv⟩ := flds
    obtain ⟨here, _⟩ := I.pin (a, oe) (List.mem_append_left _ hp)
    obtain ⟨cd, hcd, _⟩ := PySem.W.any_some C.hd
    have go : ∀ od, PySem.W.InstAt s.heap a oe D od → wpAny (model X.prog X.w) X.A (call (.builtin "isinstance") [.ref a, cv]) (fun r s' => ∃ v H', L2.Inv X pins σ H' s' ∧ RelV v r ∧ Q v H') X.xe s := fun od inst =>
      PySem.W.kia_one (PySem.W.kitx_exc (by rw [hcd]; rfl) C.hg C.hk C.hs C.ha C.hn C.ht C.hm) I.kIn inst kit (fun z => nomatch z) fun tk => ⟨.bl b, H, I.kept (t' := tk) fun _ _ z => z, rfl, q⟩
    rcases hx with rfl | ⟨dd, fs, rfl, hx⟩
    · exact go none ⟨here, hc, by unfold PySem.W.notCls; rw [hv] <;> rfl, by rw [hd]; trivial⟩
    · obtain ⟨mA, ⟨od, es, ep, there, _⟩, _⟩ := (I.hok dd _ hx : ObjOk X.prog X.w H s.heap dd (.xd fs))
      exact go (some od) ⟨here, hc, by unfold PySem.W.notCls; rw [hv] <;> rfl, by rw [hd]; exact there⟩
end
end UF
/-! own layer: a list comprehension whose element may be refused: the refusal leaves the block, then goes on in the def -/
namespace UC
open PySem PySem.Spec PyProof.Rows L2
/-- the block's context, where a refusal is heard -/
abbrev blkE (X : Cx) (s : Shared) (H : Hp) (scope : Scope) (ce : Env) (fp : List Addr) (xe : Value → Shared → Prop) : Cx := { X.blk s H scope ce fp with xe := xe }
theorem note_frame {e : Value} {e1 e2 : Env} (h : e1.frame = e2.frame) : noteFrame e e1 = noteFrame e e2 := by
  unfold PySem.noteFrame PySem.frameOf
  rw [h]
theorem pass_frame {α : Type} {what : String} {e : Value} {e1 e2 : Env} (h : e1.frame = e2.frame) : (PySem.passOn what e e1 : Sem α) = PySem.passOn what e e2 := by
  unfold PySem.passOn
  rw [h]
/-- what flies by one account flies by the other -/
theorem flying_only {B B' : Heap} {l l' : List Env} {a L : Addr} {Z Z' : Obj → Prop} {h : Heap} (fl : HandSPX.FlyingZ B l a Z h) (sky : Sky B' l' a Z' L h) : HandSPX.FlyingZ B' l' a Z' h := by
  obtain ⟨_, _, _, oe, vs, T, oT, ts, he, _, hd, h1, _, _, hT, hdT, h3⟩ := fl
  rcases sky with ⟨_, _, _, oe', vs', he', _, hd', h1'⟩ | fl' | ⟨_, _, _, oe', vs', T', oT', ts', he', _, hd', h1', _, _, hT', hdT', h3'⟩
  · rw [he] at he'
    cases he'
    rw [hd] at hd'
    cases hd'
    rw [h1] at h1'
    cases h1'
  · exact fl'
  · rw [he] at he'
    cases he'
    rw [hd] at hd'
    cases hd'
    rw [h1] at h1'
    cases h1'
    rw [hT] at hT'
    cases hT'
    rw [hdT] at hdT'
    cases hdT'
    rw [h3] at h3'
    simp [rawInt] at h3'
/-- frames that stand where all but one place stands -/
theorem frames_less {h h2 B B2 : Heap} {C : Addr} (k : ∀ b o, b ≠ C → h.get? b = some o → h2.get? b = some o) (g : ∀ b, B.get? b = none → B2.get? b = none) : ∀ {l : List Env}, C ∉ frs l → h.FunFrames B l → h2.FunFrames B2 l
  | [], _, _ => trivial
  | env :: rest, no, ⟨k1, ⟨L, o, e1, e2, e3, e4⟩, r⟩ => by
    have nL : L ≠ C := fun z => no (List.mem_filterMap.mpr ⟨env, List.mem_cons_self, by rw [e1, z]⟩)
    refine ⟨k1, ⟨L, o, e1, g _ e2, k _ _ nL e3, e4⟩, frames_less k g (fun z => no ?_) r⟩
    obtain ⟨e, he, q⟩ := List.mem_filterMap.mp z
    exact List.mem_filterMap.mpr ⟨e, List.mem_cons_of_mem _ he, q⟩
/-- a call's refusal within the block, told as the comprehension wants it -/
theorem block_raise {X : Cx} {pins pinsY : List (Addr × Obj)} {σ σY : L2.St} {H3 H5 : Hp} {s3 s5 s' : Shared} {E : XK} {scope : Scope} {cl : List (Str × Addr)} {fp : List Addr} {xe : Value → Shared → Prop} {u : Value}
    (hs : X.stack = X.env :: X.outer) (hf : X.env.frame = some X.env.locals) (tk : L2N.Takes X fun c d _ H => E c d H) (I3 : Inv X pins σ H3 s3) (f3 : ∀ b ∈ fp, FpOk X pins H3 b)
    (J : Inv (blkE X s3 H3 scope (compEnvC scope cl s3.heap.objs.size X.env) fp xe) pinsY σY H5 s5) (c : L2N.CX X.prog X.w X.stack H5 s5 E u s') :
    notedBy (model X.prog X.w) X.A (compEnvC scope cl s3.heap.objs.size X.env) (fun e s'' => CompFails (model X.prog X.w) X.A X.xe (compEnvC scope cl s3.heap.objs.size X.env) e s'') u s' := by
  have fr : (compEnvC scope cl s3.heap.objs.size X.env).frame = X.env.frame := rfl
  have hfr : X.A.frames = some (X.env :: X.outer) := by rw [I3.ok.frames, hs]
  obtain ⟨a, _, _, _, _, rfl, fl0, _⟩ := id c
  obtain ⟨a', B, sI, pinsI, σI, H', cls, d, e, JI, nb, up, sky, na, os, ag, w⟩ := L2N.XE.of_call (W := fun c d _ H => E c d H) J (fun _ _ _ h => h) c
  cases e
  have fl : HandSPX.FlyingZ B (X.env :: X.outer) a (L2N.Zn cls d) s'.heap := by
    rw [← hs]
    exact flying_only fl0 sky
  show wpAny _ _ (noteFrame (.ref a) _) _ _ _
  rw [note_frame fr]
  refine PXN.looks_onZ L2N.Zn.steady hfr hf fl fun h1 held up1 => ?_
  generalize hC : s3.heap.objs.size = C at *
  have cL : (compEnvC scope cl C X.env).locals = C := rfl
  obtain ⟨m, ⟨o, es, ep, ho, hd0, r⟩, _⟩ := id JI.loc
  obtain ⟨sl, e1⟩ := (up.trans up1) _ o ho (fun vs z => by rw [hd0] at z; cases z)
  have freeC : H' C = none := JI.free
  have f : FpOk X pins H' C := I3.fpOk (Nat.le_of_eq hC) freeC
  have nC : C ∉ frs (X.env :: X.outer) := fun z => by
    rw [← hs] at z
    rcases List.mem_cons.mp (I3.stkSub C z) with z | z
    · exact f.2.1 z
    · exact f.2.2.1 z
  refine ⟨m, ⟨_, es, ep, e1, hd0, r⟩, fun h2 m2 n2 same => ?_⟩
  rw [pass_frame fr]
  obtain ⟨b1, b2, b3, oe, vs, T, oT, ts, he, hz, hd, h1', hT0, hTa, hT, hdT, h3⟩ := held
  have data1 : ∀ {b : Addr} {ob : Obj} {ws : Array Value}, h1.get? b = some ob → ob.data = .fields ws → b ≠ C := fun {b ob ws} e dd z => by
    rw [z, show h1.get? C = _ from e1] at e
    cases e
    have dd : o.data = .fields ws := dd
    rw [hd0] at dd
    cases dd
  have aC := data1 he hd
  have TC := data1 hT hdT
  obtain ⟨B2, k2, g2⟩ := restrict B fun b => decide (b ≠ C)
  obtain ⟨G2, k3, g3⟩ := restrict sI.heap fun b => decide (b ≠ C)
  have B2C : ∀ b, B.get? b = none → B2.get? b = none := fun b e => by
    by_cases c : b = C
    · exact g2 b (by simp [c])
    · rw [k2 b (by simp [c])]
      exact e
  have B2of : ∀ b o, B2.get? b = some o → b ≠ C ∧ B.get? b = some o := fun b o e => by
    by_cases c : b = C
    · rw [g2 b (by simp [c])] at e
      cases e
    · rw [k2 b (by simp [c])] at e
      exact ⟨c, e⟩
  have to2 : ∀ b o, b ≠ C → h1.get? b = some o → h2.get? b = some o := fun b o n e => (same.2 b n).trans e
  have held2 : HandSPX.HeldZ B2 (X.env :: X.outer) a (L2N.Zn cls d) X.env.locals h2 :=
    ⟨fun b o e => to2 b o (B2of b o e).1 (b1 b o (B2of b o e).2), B2C _ b2, frames_less to2 B2C nC b3, oe, vs, T, oT, ts, to2 _ _ aC he, hz, hd, h1', B2C _ hT0, hTa, to2 _ _ TC hT, hdT, h3⟩
  unfold PySem.passOn
  refine wpAny_bind (wpAny_field (to2 _ _ aC he) hd h1' ?_)
  rw [if_neg (show ¬ ((Value.ref T == Value.none) = true) from by simp)]
  have fin : wpAny (model X.prog X.w) X.A (setFlight (.ref a) X.env.frame) (fun _ s4 => wpAny (model X.prog X.w) X.A (throw (.ref a) : Sem Value) (fun _ _ => False) X.xe s4) X.xe { s' with heap := h2 } := by
    rw [hf]
    refine HandSPX.setFlight_onZ held2 fun h4 held4 up4 => wpAny_throw (tk _ _ ?_)
    have IX : Inv X pins σ H' sI := I3.call' (ch := fp) JI.os JI.base JI.hok JI.bare fun b hb => ⟨(f3 b hb).2.2.2.1, (f3 b hb).2.1, (f3 b hb).2.2.2.2.1, (f3 b hb).2.2.2.2.2⟩
    have IG : Inv X pins σ H' { sI with heap := G2, toks := sI.toks } := IX.turned (it := C) (fun b o n e => (k3 b (by simp [n])).trans e) f.1 f.2.1 f.2.2.2.1 f.2.2.2.2.1 f.2.2.2.2.2
    have Gof : ∀ b o, G2.get? b = some o → b ≠ C ∧ sI.heap.get? b = some o := fun b o e => by
      by_cases c : b = C
      · rw [g3 b (by simp [c])] at e
        cases e
      · rw [k3 b (by simp [c])] at e
        exact ⟨c, e⟩
    refine ⟨a, B2, _, pins, σ, H', cls, d, rfl, IG, fun b o e n => ?_, fun b o e n => ?_, .inr (.inr (by rw [hs]; exact held4)), na, os, ag, w⟩
    · obtain ⟨c, e⟩ := Gof b o e
      rw [k2 b (by simp [c])]
      exact nb b o e n
    · obtain ⟨c, e⟩ := Gof b o e
      obtain ⟨sl1, e⟩ := (up.trans up1) b o e n
      obtain ⟨sl2, e⟩ := up4 b _ (to2 _ _ c e) n
      exact ⟨sl2, e⟩
  first
    | exact wpAny_bind (wpAny_pure (wpAny_bind fin))
    | exact wpAny_bind fin
section
/-- the loop of the block where a refusal is heard -/
theorem loop_heard {Y : Cx} {elt tg iter : Expr} {ifs : List Expr} {scope : Scope} {pos : Pos} {g : TG} {tt : TT} {te : TE} {J : It} {it D : Addr} {fp : List Addr} {tn : Nat → Heap → Prop} {W : Nat → Nat → Hp → Prop} {σ : L2.St} {vs : List Nat} {H : Hp} {s : Shared} {m0 : Nat} {Qd : Hp → Prop} {R : Result → Shared → Prop}
    (calm : Y.calm = true) (ex : Y.ex = fp) (pn : Y.pn = []) (xe : Y.xe = notedBy (model Y.prog Y.w) Y.A Y.env fun e s' => R (.error e) s') (T : Turn Y.prog Y.w Y.K tg J fp it tn) (pg : PG Y tg g) (pt : PTs Y ifs tt) (pe : PE Y elt te)
    (I : Inv Y [] (wipe σ vs) H s) (st : tn 0 s.heap) (out : ∀ b ∈ fp, H b = none) (w0 : W 0 m0 H)
    (turn : ∀ i m H, W i m H → (J.stop i H ∧ Qd H) ∨ (J.go i H ∧ ∃ Nx : Hp → Prop, (∀ H', Nx H' → ∃ m', m' < m ∧ W (i + 1) m' H') ∧ ∀ x H', J.yld i H x H' → g x (wipe σ vs) H' fun σ2 H2 => wipe σ2 vs = wipe σ vs ∧ tt σ2 H2 fun b H3 =>
      if b = true then te σ2 H3 fun y H4 => ∃ acc, H4 D = some (.lst acc) ∧ acc.length < sizeLine ∧ Nx (upd H4 D (.lst (acc ++ [y]))) else Nx H3))
    (left : ∀ s' H', Inv Y [] (wipe σ vs) H' s' → Qd H' → R (.ok .next) s') :
    codeAny (model Y.prog Y.w) Y.A (.compLoop (.ListComp elt [⟨tg, iter, ifs, 0⟩] scope pos) 0 (.ref it) (.ref D) Y.env) R s := by
  subst ex
  refine compLoop_any (fun n s' => ∃ i H', Inv Y [] (wipe σ vs) H' s' ∧ tn i s'.heap ∧ (∀ b ∈ Y.ex, H' b = none) ∧ W i n H') ?_ m0 ⟨0, H, I, st, out, w0⟩
  rintro n s1 ⟨i, H1, I1, st1, out1, w1⟩
  rw [← xe]
  have free : ∀ {σ' H' s'}, Inv Y [] σ' H' s' → (∀ b ∈ Y.ex, H' b = none) → ∀ b ∈ Y.ex, FpOk Y [] H' b := fun {σ' H' s'} I' no b hb =>
    ⟨no b hb, (I'.ok.exf b hb).1, I'.ok.exfs b hb, .inl hb, (I'.ok.exf b hb).2, fun p hp => by rw [pn] at hp; cases hp⟩
  rcases turn i n H1 w1 with ⟨stop, done⟩ | ⟨go, Nx, next, step⟩
  · refine thn (T.done Y rfl rfl rfl calm i [] s1 _ H1 _ I1 (free I1 out1) st1 stop) fun r s2 ⟨e, I2⟩ => ?_
    subst e
    exact left s2 H1 I2 done
  refine thn (T.item Y rfl rfl rfl calm i [] s1 _ H1 _ I1 (free I1 out1) st1 go) fun r s2 ⟨u, e, drawn⟩ => ?_
  subst e
  refine thn drawn fun _ s3 ⟨x, H3, I3, rx, yx, st3, out3⟩ => ?_
  have held := I3.pinned (free I3 out3) (T.obj _ _ st3)
  refine thn (pg.run _ s3 _ H3 x u _ held rx (step x H3 yx)) fun _ s4 ⟨σ4, H4, I4, same, tests⟩ => ?_
  refine thn (pt.run _ s4 σ4 H4 _ I4 tests) fun b s5 ⟨H5, I5, rest⟩ => ?_
  have again : ∀ {s' : Shared} {H' : Hp}, Inv Y ([] ++ pinsAt Y.ex s3.heap) σ4 H' s' → Nx H' → ∃ m, m < n ∧ ∃ i H', Inv Y [] (wipe σ vs) H' s' ∧ tn i s'.heap ∧ (∀ b ∈ Y.ex, H' b = none) ∧ W i m H' := fun {s' H'} I' reached => by
    obtain ⟨m', less, w'⟩ := next H' reached
    have kept : ∀ b ∈ Y.ex, ∀ o, s3.heap.get? b = some o → s'.heap.get? b = some o ∧ H' b = none := fun b hb o e => by
      have z := I'.pin (b, o) (List.mem_append_right _ (List.mem_append_right _ (mem_pinsAt hb e)))
      exact ⟨z.1, z.2.1⟩
    refine ⟨m', less, i + 1, H', (I'.unpinned (pins := [])).weak (by rw [← same, wipe_length]) fun j v e => ?_, T.keep _ _ _ st3 fun b hb o e => (kept b hb o e).1, fun b hb => ?_, w'⟩
    · rw [← same] at e
      exact (wipe_some e).1
    · obtain ⟨o, e, _⟩ := T.obj _ _ st3 b hb
      exact (kept b hb o e).2
  cases b with
  | false => exact again I5 rest
  | true => exact thn (pe.run _ s5 σ4 H5 _ I5 rest) fun z s6 ⟨y, H6, I6, ry, acc, at_D, few, reached⟩ => app_ok (X := Y) I6 at_D few ry fun s7 I7 => again I7 reached
end
section
variable {X : Cx}
/-- the comprehension, what is done with the list last -/
theorem lc_heard {pins : List (Addr × Obj)} {s : Shared} {σ : L2.St} {H : Hp} {Q : VK} {E : XK} {elt tg iter : Expr} {ifs : List Expr} {scope : Scope} {own : List (Str × Nat)} {pos pos' : Pos} {wi : TI} {g : TG} {tt : TT} {te : TE} {use : Option (Value → Sem Unit)} {Qf : Value → Shared → Prop}
    (calm : X.calm = true) (hst : X.stack = X.env :: X.outer) (hf : X.env.frame = some X.env.locals) (tk : L2N.Takes X fun c d _ H => E c d H) (hN : X.N.Nodup) (I : Inv X pins σ H s) (hi : PI X tg iter wi) (ok : BlkOk X.N X.env.scope scope own)
    (pg : ∀ s H C cl fp xe, PG (blkE X s H scope (compEnvC scope cl C X.env) fp xe) tg g) (pt : ∀ s H C cl fp xe, PTs (blkE X s H scope (compEnvC scope cl C X.env) fp xe) ifs tt)
    (pe : ∀ s H C cl fp xe, Passes (L2N.CX X.prog X.w) (blkE X s H scope (compEnvC scope cl C X.env) fp xe) E → PE (blkE X s H scope (compEnvC scope cl C X.env) fp xe) elt te)
    (hs : ∀ x, foldedSetIterable iter X.env x = pure x) (h : tLc wi g tt te (own.map (·.2)) σ H Q)
    (then_ : ∀ D ce s' m H', Inv X pins σ H' s' → Q (.ref D) H' → s'.heap.Ns ce.locals m → FpOk X pins H' ce.locals → compEnds (model X.prog X.w) X.A X.xe use Qf (.ref D) ce (.ok .next) s') :
    wpAny (model X.prog X.w) X.A (comprehension (.ListComp elt [⟨tg, iter, ifs, 0⟩] scope pos) scope X.env pos' (newList []) false (eval iter X.env) use) Qf X.xe s := by
  have cells : ∀ y ∈ scope.names, y.2 = .free → ∃ c, X.env.cells.lookup y.1 = some c := fun y hy e => I.ok.has _ (ok.free y hy e)
  refine comprehension_at (use := use) rfl hs (closure_ok cells) ok.kind (fun y hy e => by rw [ok.uniq y hy, e]) (thn (hi.run pins s σ H _ I h) fun _ s1 begun => thn begun fun _ s2 there => ?_)
  obtain ⟨it, fp, tn, J, H2, e, I2, T, st2, free2, q⟩ := there
  subst e
  refine wpAny_newObj_type (newEnv_comp ?_) (Nat.zero_le _)
  obtain ⟨W, ⟨m0, w0⟩, turn⟩ := q s2.heap.objs.size (I2.hok.fresh (Nat.le_refl _))
  generalize hs3 : ({ s2 with heap := s2.heap.push { cls := .type "list", data := .seq ([] : List Value).toArray } } : Shared) = s3
  have h3 : s2.heap.push { cls := .type "list", data := .seq ([] : List Value).toArray } = s3.heap := by rw [← hs3]
  have I3 : Inv X pins σ (upd H2 s2.heap.objs.size (.lst [])) s3 := by
    rw [← hs3]
    exact I2.laid (t' := s2.toks) (fun b o e => Heap.get?_push_of_some _ e) (Nat.le_refl _) ⟨Nat.zero_le _, [], 0, .nil, Heap.get?_push_size _ rfl⟩
  have small : ∀ b ∈ fp, b < s2.heap.objs.size := fun b hb => Heap.lt_size (T.obj _ _ st2 b hb).choose_spec.1
  have free3 : ∀ b ∈ fp, FpOk X pins (upd H2 s2.heap.objs.size (.lst [])) b ∧ b < s3.heap.objs.size := fun b hb =>
    ⟨⟨by rw [upd_ne (Nat.ne_of_lt (small b hb))]; exact (free2 b hb).1, (free2 b hb).2⟩, by rw [← h3, Heap.size_push]; exact Nat.lt_succ_of_lt (small b hb)⟩
  generalize upd H2 s2.heap.objs.size (.lst []) = H3 at I3 free3 w0
  generalize hcl : cellsFrom (s3.heap.objs.size + 1) scope.names (cloFrom X.env.cells scope.names []) = cl
  generalize hxe : notedBy (model X.prog X.w) X.A (compEnvC scope cl s3.heap.objs.size X.env) (fun e s' => CompFails (model X.prog X.w) X.A X.xe (compEnvC scope cl s3.heap.objs.size X.env) e s') = xe
  have I4 := block_start I3 ok hN free3
  rw [hcl] at I4
  have I4 : Inv (blkE X s3 H3 scope (compEnvC scope cl s3.heap.objs.size X.env) fp xe) [] (wipe σ (own.map (·.2))) H3 { s3 with heap := pushCells (s3.heap.push { cls := .type "dict", data := .dict #[] }) scope.names } := I4.toTry xe
  have st4 : tn 0 (pushCells (s3.heap.push { cls := .type "dict", data := .dict #[] }) scope.names) := T.keep 0 s2.heap _ st2 fun b _ o e => pushCells_keeps _ _ _ _ (Heap.get?_push_of_some _ (by rw [← h3]; exact Heap.get?_push_of_some _ e))
  have hear : Passes (L2N.CX X.prog X.w) (blkE X s3 H3 scope (compEnvC scope cl s3.heap.objs.size X.env) fp xe) E := fun pinsY σY H5 s5 u s' J c => by
    show xe u s'
    rw [← hxe]
    exact block_raise hst hf tk I3 (fun b hb => (free3 b hb).1) J c
  have loop := loop_heard (σ := σ) (vs := own.map (·.2)) (R := compEnds (model X.prog X.w) X.A X.xe use Qf (.ref s2.heap.objs.size) (compEnvC scope cl s3.heap.objs.size X.env)) (scope := scope) (pos := pos) (iter := iter) (Y := blkE X s3 H3 scope (compEnvC scope cl s3.heap.objs.size X.env) fp xe) calm rfl rfl (by
    show xe = _
    rw [← hxe]
    rfl) T (pg _ _ _ _ _ _) (pt _ _ _ _ _ _) (pe _ _ _ _ _ _ hear) I4 st4 (fun b hb => (free3 b hb).1.1) w0 turn fun s' H' I6 done => by
      have I7 : Inv X pins σ H' s' := I3.call' (ch := fp) I6.os I6.base I6.hok I6.bare fun b hb => ⟨(free3 b hb).1.2.2.2.1, (free3 b hb).1.2.1, (free3 b hb).1.2.2.2.2.1, (free3 b hb).1.2.2.2.2.2⟩
      obtain ⟨m, names, _⟩ := I6.loc
      exact then_ _ _ s' m H' I7 done names (I3.fpOk (Nat.le_refl _) I6.free)
  subst hs3
  exact codeAny_compStart_list loop (T.self X.A 0 _ _ _ st4 loop)
theorem pe_lcR {E : XK} {elt tg iter : Expr} {ifs : List Expr} {scope : Scope} {own : List (Str × Nat)} {pos : Pos} {wi : TI} {g : TG} {tt : TT} {te : TE} (calm : X.calm = true) (hst : X.stack = X.env :: X.outer) (hf : X.env.frame = some X.env.locals) (tk : L2N.Takes X fun c d _ H => E c d H) (hN : X.N.Nodup) (hi : PI X tg iter wi) (ok : BlkOk X.N X.env.scope scope own)
    (pg : ∀ s H C cl fp xe, PG (blkE X s H scope (compEnvC scope cl C X.env) fp xe) tg g) (pt : ∀ s H C cl fp xe, PTs (blkE X s H scope (compEnvC scope cl C X.env) fp xe) ifs tt)
    (pe : ∀ s H C cl fp xe, Passes (L2N.CX X.prog X.w) (blkE X s H scope (compEnvC scope cl C X.env) fp xe) E → PE (blkE X s H scope (compEnvC scope cl C X.env) fp xe) elt te)
    (hs : ∀ x, foldedSetIterable iter X.env x = pure x := by intro _; rfl) : PE X (.ListComp elt [⟨tg, iter, ifs, 0⟩] scope pos) (tLc wi g tt te (own.map (·.2))) :=
  ⟨fun pins s σ H Q I h => by
    rw [eval_ListComp]
    exact lc_heard calm hst hf tk hN I hi ok pg pt pe hs h fun D ce s' m H' I' q names f => ⟨m, names, fun h'' same => ⟨.ref D, H', I'.turned (t' := s'.toks) (fun b o nb e => (same.2 b nb).trans e) f.1 f.2.1 f.2.2.2.1 f.2.2.2.2.1 f.2.2.2.2.2, rfl, q⟩⟩⟩
/-- name = [..] on one line, the name a local -/
theorem ps_setLcR {E : XK} {i : Nat} {y : Str} {py : Pos} {elt tg iter : Expr} {ifs : List Expr} {scope : Scope} {own : List (Str × Nat)} {pos spos : Pos} {wi : TI} {g : TG} {tt : TT} {te : TE} (calm : X.calm = true) (hst : X.stack = X.env :: X.outer) (hf : X.env.frame = some X.env.locals) (tk : L2N.Takes X fun c d _ H => E c d H) (hN : X.N.Nodup) (at_i : X.N[i]? = some y) (local_ : X.env.scope.names.lookup y = some .local)
    (swaps : swapsWith (.ListComp elt [⟨tg, iter, ifs, 0⟩] scope pos) (some (.Name y py)) spos.line X.env = pure true) (hi : PI X tg iter wi) (ok : BlkOk X.N X.env.scope scope own)
    (pg : ∀ s H C cl fp xe, PG (blkE X s H scope (compEnvC scope cl C X.env) fp xe) tg g) (pt : ∀ s H C cl fp xe, PTs (blkE X s H scope (compEnvC scope cl C X.env) fp xe) ifs tt)
    (pe : ∀ s H C cl fp xe, Passes (L2N.CX X.prog X.w) (blkE X s H scope (compEnvC scope cl C X.env) fp xe) E → PE (blkE X s H scope (compEnvC scope cl C X.env) fp xe) elt te)
    (hs : ∀ x, foldedSetIterable iter X.env x = pure x := by intro _; rfl) : PS X (.Assign [.Name y py] (.ListComp elt [⟨tg, iter, ifs, 0⟩] scope pos) spos) (tAsg (tLc wi g tt te (own.map (·.2))) (gName i)) :=
  ⟨fun pins s σ H D I h => by
    rw [exec_Assign_Name_used _ _ _ _ swaps]
    have stored := lc_heard (pos := pos) (pos' := firstIterPos [⟨tg, iter, ifs, 0⟩] pos) (use := some (assign (.Name y py) X.env)) (Qf := fun _ s' => SP X pins D .next s') calm hst hf tk hN I hi ok pg pt pe hs (show tLc wi g tt te (own.map (·.2)) σ H (fun x H1 => gName i x σ H1 D.nx) from h) fun L ce s' m H' I' q names f => by
      refine wpAny_assign_Name (store_ok2 (v := V.ref L) I' hN at_i (.inl local_) rfl (fun s2 I2 ⟨a, same, where_⟩ => ?_) (.inr local_))
      have apart : ce.locals ≠ a := where_.elim (fun z => by rw [z]; exact f.2.1) fun z e => f.2.2.2.2.1 y a z e.symm
      exact ⟨m, names.sameBut same apart, fun h3 same3 => ⟨_, H', I2.turned (t' := s2.toks) (fun b o nb e => (same3.2 b nb).trans e) f.1 f.2.1 f.2.2.2.1 f.2.2.2.2.1 f.2.2.2.2.2, q⟩⟩
    exact wpAny_bind (wpAny_standAt (wpAny_bind (wpAny_bind (thn stored fun _ s' done => wpAny_pure (wpAny_pure done)))))⟩
end
end UC
/-! own layer: sets of texts put together and taken from one another: xs | ys, xs - ys -/
set_option maxHeartbeats 1600000
namespace UV
open PySem
/-! ### where a clean table lays its entries -/
/-- so many leaps from a place -/
def goOn (m : Nat) : Nat × Nat → Nat → Nat × Nat
  | q, 0 => q
  | q, n + 1 => goOn m (SetTable.leap m q.1 q.2) n
theorem goOn_add (m : Nat) : ∀ (a c : Nat) (q : Nat × Nat), goOn m q (a + c) = goOn m (goOn m q a) c
  | 0, c, q => by rw [Nat.zero_add]; rfl
  | a + 1, c, q => by
    rw [Nat.succ_add]
    exact goOn_add m a c _
theorem goOn_rest (m : Nat) : ∀ (n : Nat) (q : Nat × Nat), (goOn m q n).2 = q.2 / 32 ^ n
  | 0, q => by simp [goOn]
  | n + 1, q => by
    have := goOn_rest m n (SetTable.leap m q.1 q.2)
    rw [Nat.pow_succ, Nat.mul_comm, ← Nat.div_div_eq_div_mul]
    exact this
theorem goOn_le (m : Nat) : ∀ (n : Nat) (q : Nat × Nat), q.1 ≤ m → (goOn m q n).1 ≤ m
  | 0, q, h => h
  | n + 1, q, _ => goOn_le m n _ (Nat.le_of_lt_succ (Nat.mod_lt _ (Nat.succ_pos m)))
/-- the sizes (less one) of the tables that are met here -/
def Msk (m : Nat) : Prop := m = 7 ∨ m = 15 ∨ m = 31 ∨ m = 63 ∨ m = 127
def tour (m : Nat) : Nat → Nat × Nat → List Nat
  | 0, _ => []
  | n + 1, q => q.1 :: tour m n (SetTable.leap m q.1 q.2)
theorem tour_mem (m : Nat) : ∀ (n : Nat) (q : Nat × Nat) (j : Nat), j ∈ tour m n q → ∃ c, c < n ∧ (goOn m q c).1 = j
  | n + 1, q, j, h => by
    rcases List.mem_cons.mp h with e | e
    · exact ⟨0, Nat.succ_pos n, e.symm⟩
    · obtain ⟨c, h1, h2⟩ := tour_mem m n _ j e
      exact ⟨c + 1, Nat.succ_lt_succ h1, h2⟩
/-- from the first place on all places are met, and the way is round -/
def roundB (m : Nat) : Bool := (goOn m (0, 0) (m + 1) == (0, 0)) && (List.range (m + 1)).all fun j => (tour m (m + 1) (0, 0)).contains j
theorem round_of {m : Nat} (h : Msk m) : roundB m = true := by
  rcases h with rfl | rfl | rfl | rfl | rfl <;> decide +kernel
theorem from_zero {m j : Nat} (hm : Msk m) (hj : j ≤ m) : ∃ c, c ≤ m ∧ (goOn m (0, 0) c).1 = j := by
  have two := Bool.and_eq_true_iff.mp (round_of hm)
  have has := List.all_eq_true.mp two.2 j (List.mem_range.mpr (Nat.lt_succ_of_le hj))
  obtain ⟨c, h1, h2⟩ := tour_mem m _ _ j (List.contains_iff_mem.mp has)
  exact ⟨c, Nat.le_of_lt_succ h1, h2⟩
theorem from_any {m i j : Nat} (hm : Msk m) (hi : i ≤ m) (hj : j ≤ m) : ∃ c, c ≤ m ∧ (goOn m (i, 0) c).1 = j := by
  obtain ⟨a, a1, a2⟩ := from_zero hm hi
  obtain ⟨b, b1, b2⟩ := from_zero hm hj
  have home : goOn m (0, 0) (m + 1) = (0, 0) := eq_of_beq (Bool.and_eq_true_iff.mp (round_of hm)).1
  have here : goOn m (0, 0) a = (i, 0) := by
    have rest := goOn_rest m a (0, 0)
    rw [Nat.zero_div] at rest
    exact Prod.ext a2 rest
  by_cases le : a ≤ b
  · refine ⟨b - a, by omega, ?_⟩
    rw [← here, ← goOn_add, Nat.add_sub_cancel' le]
    exact b2
  · refine ⟨m + 1 + b - a, by omega, ?_⟩
    rw [← here, ← goOn_add, Nat.add_sub_cancel' (by omega), goOn_add, home]
    exact b2
theorem meets {m j : Nat} (hm : Msk m) (h : Int) (hj : j ≤ m) : ∃ k, k < SetTable.turns m ∧ (goOn m (SetTable.bits h % (m + 1), SetTable.bits h) k).1 = j := by
  have small : SetTable.bits h < 2 ^ 64 := by
    unfold SetTable.bits
    have := Int.emod_lt_of_pos h (show (0 : Int) < 2 ^ 64 by decide)
    have := Int.emod_nonneg h (show (2 ^ 64 : Int) ≠ 0 by decide)
    omega
  generalize SetTable.bits h = b at small ⊢
  have rest := goOn_rest m 13 (b % (m + 1), b)
  have none : b / 32 ^ 13 = 0 := Nat.div_eq_of_lt (Nat.lt_of_lt_of_le small (by decide))
  have le := goOn_le m 13 (b % (m + 1), b) (Nat.le_of_lt_succ (Nat.mod_lt _ (Nat.succ_pos m)))
  obtain ⟨c, c1, c2⟩ := from_any hm le hj
  refine ⟨13 + c, by unfold SetTable.turns; omega, ?_⟩
  rw [goOn_add]
  have e : goOn m (b % (m + 1), b) 13 = ((goOn m (b % (m + 1), b) 13).1, 0) := Prod.ext rfl (rest.trans none)
  rw [e]
  exact c2
/-! ### a free place is found, and it is free -/
theorem find_some {m : Nat} {owner : Array (Option Nat)} : ∀ (n k : Nat) (q : Nat × Nat), k < n → (owner.getD (goOn m q k).1 (some 0)).isNone = true → ∃ j, SetTable.layClean.free m owner n q.1 q.2 = some j
  | n + 1, k, q, lt, no => by
    unfold SetTable.layClean.free
    split
    · exact ⟨_, rfl⟩
    · rename_i all
      cases k with
      | zero =>
        have ge : q.1 ≤ SetTable.runEnd m q.1 := by
          unfold SetTable.runEnd
          split <;> omega
        have := List.find?_eq_none.mp all 0 (List.mem_range.mpr (by omega))
        rw [Nat.add_zero] at this
        exact absurd no this
      | succ k => exact find_some n k (SetTable.leap m q.1 q.2) (Nat.lt_of_succ_lt_succ lt) no
theorem find_free {m : Nat} {owner : Array (Option Nat)} {j : Nat} : ∀ (n i p : Nat), SetTable.layClean.free m owner n i p = some j → (owner.getD j (some 0)).isNone = true
  | 0, i, p, h => by
    unfold SetTable.layClean.free at h
    cases h
  | n + 1, i, p, h => by
    unfold SetTable.layClean.free at h
    split at h
    · rename_i k found
      cases h
      exact (List.find?_some (p := fun k => (owner.getD (i + k) (some 0)).isNone) found)
    · exact find_free n _ _ h
/-! ### the entries, one behind another -/
/-- the owners of the places: each of the first k once -/
def Held (m : Nat) (owner : Array (Option Nat)) (k : Nat) : Prop := owner.size = m + 1 ∧ (owner.toList.filterMap id).Perm (List.range k)
theorem gap : ∀ l : List (Option Nat), (l.filterMap id).length < l.length → ∃ j : Nat, l[j]? = some none
  | none :: l, _ => ⟨0, rfl⟩
  | some x :: l, h => by
    have h : (l.filterMap id).length + 1 < l.length + 1 := h
    obtain ⟨j, hj⟩ := gap l (Nat.lt_of_succ_lt_succ h)
    exact ⟨j + 1, hj⟩
theorem filled (k : Nat) : ∀ (l : List (Option Nat)) (j : Nat), l[j]? = some none → ((l.set j (some k)).filterMap id).Perm (k :: l.filterMap id)
  | x :: l, 0, h => by
    cases h
    exact List.Perm.refl _
  | none :: l, j + 1, h => filled k l j h
  | some y :: l, j + 1, h => by
    exact ((filled k l j h).cons y).trans (List.Perm.swap k y _)
theorem at_none {owner : Array (Option Nat)} {j : Nat} (h : (owner.getD j (some 0)).isNone = true) : owner.toList[j]? = some none := by
  rw [Array.getD_eq_getD_getElem?] at h
  rw [Array.getElem?_toList]
  cases e : owner[j]? with
  | none => rw [e] at h; cases h
  | some o =>
    rw [e] at h
    cases o with
    | none => rfl
    | some _ => cases h
def lay1 (m : Nat) (acc : Option (Array (Option Nat) × Nat)) (h : Int) : Option (Array (Option Nat) × Nat) := do
  let (owner, k) ← acc
  let j ← SetTable.layClean.free m owner (SetTable.turns m) (SetTable.bits h % (m + 1)) (SetTable.bits h)
  pure (owner.setIfInBounds j (some k), k + 1)
theorem lay1_held {m k : Nat} {owner : Array (Option Nat)} (hm : Msk m) (H : Held m owner k) (le : k ≤ m) (h : Int) : ∃ owner', lay1 m (some (owner, k)) h = some (owner', k + 1) ∧ Held m owner' (k + 1) := by
  obtain ⟨size, each⟩ := H
  have fewer : (owner.toList.filterMap id).length < owner.toList.length := by
    rw [each.length_eq, List.length_range, Array.length_toList, size]
    omega
  obtain ⟨j0, hj0⟩ := gap _ fewer
  have in0 : j0 ≤ m := by
    have := (List.getElem?_eq_some_iff.mp hj0).1
    rw [Array.length_toList, size] at this
    omega
  obtain ⟨c, c1, c2⟩ := meets hm h in0
  obtain ⟨j, hj⟩ := find_some (owner := owner) _ c _ c1 (by
    rw [c2, Array.getD_eq_getD_getElem?, ← Array.getElem?_toList, hj0]
    rfl)
  have open_ := at_none (find_free _ _ _ hj)
  refine ⟨owner.setIfInBounds j (some k), ?_, by rw [Array.size_setIfInBounds]; exact size, ?_⟩
  · unfold lay1
    show (SetTable.layClean.free m owner (SetTable.turns m) (SetTable.bits h % (m + 1)) (SetTable.bits h)).bind _ = _
    rw [hj]
    rfl
  · rw [Array.toList_setIfInBounds, List.range_succ]
    exact (filled k _ j open_).trans ((each.cons k).trans (List.perm_append_singleton k _).symm)
theorem lay_held {m : Nat} (hm : Msk m) : ∀ (hs : List Int) (owner : Array (Option Nat)) (k : Nat), Held m owner k → k + hs.length ≤ m + 1 → ∃ owner', hs.foldl (lay1 m) (some (owner, k)) = some (owner', k + hs.length) ∧ Held m owner' (k + hs.length)
  | [], owner, k, H, _ => ⟨owner, rfl, H⟩
  | h :: hs, owner, k, H, le => by
    rw [List.length_cons] at le
    obtain ⟨o1, e1, H1⟩ := lay1_held hm H (by omega) h
    obtain ⟨o2, e2, H2⟩ := lay_held hm hs o1 (k + 1) H1 (by omega)
    rw [Nat.add_assoc, Nat.add_comm 1] at e2 H2
    exact ⟨o2, by rw [List.foldl_cons, e1]; exact e2, H2⟩
theorem live_owners (l : List (Option Nat)) : ((List.range l.length).filterMap fun j => (l[j]?.getD none).map (j, ·)).map (·.2) = l.filterMap id := by
  rw [List.map_filterMap]
  have e := List.filterMap_getElem?_range_length l
  have f : l.filterMap id = ((List.range l.length).filterMap (fun i => l[i]?)).filterMap id := by rw [e]
  rw [f, List.filterMap_filterMap]
  congr 1
  funext j
  cases l[j]? with
  | none => rfl
  | some o => cases o <;> rfl
/-- a clean table for so many hashes as there is room: its order has each of them once -/
theorem laid_ok {m finger moves : Nat} {led plain : Bool} {hs : Array Int} (hm : Msk m) (few : hs.size ≤ m) :
    ∃ t order, SetTable.laid m finger moves led plain hs = some (t, order) ∧ order.toList.Perm (List.range hs.size) ∧ L2.Ris t.place.toList ∧ t.place.size = hs.size ∧ t.dummies = #[] ∧ t.mask = m ∧ t.led = led := by
  have start : Held m (Array.replicate (m + 1) none) 0 := by
    refine ⟨Array.size_replicate, ?_⟩
    rw [Array.toList_replicate]
    have : ∀ n : Nat, (List.replicate n (none : Option Nat)).filterMap id = [] := fun n => by
      induction n with
      | zero => rfl
      | succ n ih => rw [List.replicate_succ, List.filterMap_cons_none rfl, ih]
    rw [this]
    exact List.Perm.refl _
  obtain ⟨owner, e, H⟩ := lay_held hm hs.toList _ 0 start (by rw [Array.length_toList]; omega)
  rw [Nat.zero_add, Array.length_toList] at e H
  have clean : SetTable.layClean m hs = some owner := by
    unfold SetTable.layClean
    rw [← Array.foldl_toList]
    have : hs.toList.foldl (lay1 m) (some (Array.replicate (m + 1) none, 0)) = some (owner, hs.size) := e
    show (hs.toList.foldl (lay1 m) (some (Array.replicate (m + 1) none, 0))).map (·.1) = some owner
    rw [this]
    rfl
  have size : owner.toList.length = m + 1 := by rw [Array.length_toList]; exact H.1
  have owners := live_owners owner.toList
  rw [size] at owners
  have same : (fun j => (owner.getD j none).map (Prod.mk j)) = fun j => (owner.toList[j]?.getD none).map (Prod.mk j) := by
    funext j
    rw [Array.getD_eq_getD_getElem?, Array.getElem?_toList]
  have ris := (L2.ris_live (fun j => owner.getD j none) (List.range (m + 1)) List.pairwise_lt_range).1
  refine ⟨_, _, by unfold SetTable.laid; rw [clean]; rfl, ?_, ris, ?_, rfl, rfl, rfl⟩
  · show (((List.range (m + 1)).filterMap fun j => (owner.getD j none).map (Prod.mk j)).map (·.2)).Perm _
    rw [same, owners]
    exact H.2
  · show (((List.range (m + 1)).filterMap fun j => (owner.getD j none).map (Prod.mk j)).map (·.1)).length = _
    rw [List.length_map, ← List.length_map (f := (·.2)), same, owners, H.2.length_eq, List.length_range]
/-- what a size asked for comes to -/
def aboveB (n : Nat) : Bool := [7, 15, 31, 63, 127].contains (SetTable.sizeAbove n - 1) && decide (n < SetTable.sizeAbove n) && decide (SetTable.sizeAbove n ≤ 128)
theorem above_ok {n : Nat} (h : n < 128) : Msk (SetTable.sizeAbove n - 1) ∧ n ≤ SetTable.sizeAbove n - 1 ∧ SetTable.sizeAbove n ≤ 128 := by
  have all : (List.range 128).all aboveB = true := by decide +kernel
  have one := List.all_eq_true.mp all n (List.mem_range.mpr h)
  unfold aboveB at one
  rw [Bool.and_eq_true, Bool.and_eq_true] at one
  obtain ⟨⟨h1, h2⟩, h3⟩ := one
  have lt := of_decide_eq_true h2
  have le := of_decide_eq_true h3
  refine ⟨?_, by omega, le⟩
  have := List.contains_iff_mem.mp h1
  unfold Msk
  simpa using this
end UV
/-! own layer: sets of texts that can be walked: set(xs), sorted of it, xs | ys, xs - ys -/
set_option maxHeartbeats 1600000
namespace UZ
open PySem PySem.Spec PyProof.Rows L2
/-! ### the entries of a set of texts, and its table -/
def keyT (e : Int × Value) : Str := match e.2 with
  | .str x _ => x
  | _ => Str.empty
def Tx (w : World) (e : Int × Value) : Prop := ∃ x tk, e.2 = Value.str x tk ∧ e.1 = hashStr w x
/-- entries and table of a set of these texts, each once -/
structure Gd (w : World) (es : Array (Int × Value)) (t : SetTable) (xs : List Str) : Prop where
  tx : ∀ e ∈ es.toList, Tx w e
  keys : (es.toList.map keyT).Perm xs
  nd : xs.Nodup
  few : es.size < scanBound
  fit : t.fits es.size = true
  ris : Ris t.place.toList
  led : w.params.followText "set-order" = true ∨ t.led = true
/-- what stands at a: a set with these entries, this count of changes, this table -/
def At (h : Heap) (a : Addr) (es : Array (Int × Value)) (ep : Nat) (t : SetTable) : Prop := ∃ o, h.get? a = some o ∧ o.ExactSet ∧ o.data = .set es ep t
/-- the set at a: these texts, each once; its table can be walked -/
def SetT (w : World) (h : Heap) (a : Addr) (xs : List Str) : Prop := ∃ es ep t, At h a es ep t ∧ Gd w es t xs
section
variable {P : Program} {w : World} {A : Around} {E : Value → Shared → Prop} {s : Shared} {h h' : Heap} {a : Addr} {xs ys : List Str} {es fs : Array (Int × Value)} {t u : SetTable} {ep : Nat} {x : Str} {tk : Tok}
theorem At.at (R : At h a es ep t) (k : ∀ o, h.get? a = some o → h'.get? a = some o) : At h' a es ep t := by
  obtain ⟨o, ho, r⟩ := R
  exact ⟨o, k o ho, r⟩
theorem At.is (R : At s.heap a es ep t) : s.TypeIs (.ref a) "set" := by
  obtain ⟨o, ho, ex, _⟩ := R
  exact ⟨o, ho, ex.1⟩
theorem SetT.at (R : SetT w h a xs) (k : ∀ o, h.get? a = some o → h'.get? a = some o) : SetT w h' a xs := by
  obtain ⟨es, ep, t, H, G⟩ := R
  exact ⟨es, ep, t, H.at k, G⟩
theorem SetT.is (R : SetT w s.heap a xs) : s.TypeIs (.ref a) "set" := by
  obtain ⟨_, _, _, R, _⟩ := R
  exact R.is
theorem Gd.size (G : Gd w es t xs) : es.size = xs.length := by rw [← G.keys.length_eq, List.length_map, Array.length_toList]
theorem Gd.elems (G : Gd w es t xs) : ElemsOf (strKind P w) es.toList := fun e he => by
  obtain ⟨x, tk, e1, e2⟩ := G.tx e he
  rw [e1, e2]
  exact ⟨⟨x, Froz.is_str x tk, rfl⟩, rfl⟩
theorem Gd.line (G : Gd w es t xs) : es.size ≤ sizeLine := fits_of_scanBound G.few
/-- other places of the same entries -/
theorem Gd.moved (G : Gd w es t xs) (p : fs.toList.Perm es.toList) (fit : u.fits fs.size = true) (ris : Ris u.place.toList) (led : w.params.followText "set-order" = true ∨ u.led = true) : Gd w fs u xs where
  tx e he := G.tx e (p.mem_iff.mp he)
  keys := (p.map keyT).trans G.keys
  nd := G.nd
  few := by
    have := p.length_eq
    rw [Array.length_toList, Array.length_toList] at this
    exact this ▸ G.few
  fit := fit
  ris := ris
  led := led
/-- one entry more -/
theorem Gd.more (G : Gd w es t xs) (no : x ∉ xs) (room : xs.length + 1 < scanBound) (p : fs.toList.Perm (es.push (hashStr w x, .str x tk)).toList) (fit : u.fits fs.size = true) (ris : Ris u.place.toList) (led : w.params.followText "set-order" = true ∨ u.led = true) : Gd w fs u (x :: xs) := by
  rw [Array.toList_push] at p
  have q := p.trans (List.perm_append_singleton _ _)
  have keys := (q.map keyT).trans (G.keys.cons x)
  refine ⟨fun e he => ?_, keys, List.nodup_cons.mpr ⟨no, G.nd⟩, ?_, fit, ris, led⟩
  · rcases List.mem_cons.mp (q.mem_iff.mp he) with rfl | old
    · exact ⟨x, tk, rfl, rfl⟩
    · exact G.tx e old
  · have := keys.length_eq
    rw [List.length_map, Array.length_toList] at this
    rw [this]
    exact room
theorem Gd.key (G : Gd w es t xs) {e : Int × Value} (he : e ∈ es.toList) : (strKind P w).is x e.2 = true ↔ keyT e = x := by
  obtain ⟨y, tk, e1, _⟩ := G.tx e he
  unfold keyT
  rw [e1]
  show Value.isStrOf x (.str y tk) = true ↔ y = x
  simp [Value.isStrOf]
/-- where it is found -/
theorem Gd.there (G : Gd w es t xs) {j : Nat} (found : List.findIdx? (fun e => (strKind P w).is x e.2) es.toList = some j) : ∃ e, es.toList[j]? = some e ∧ keyT e = x ∧ x ∈ xs := by
  obtain ⟨lt, is, _⟩ := List.findIdx?_eq_some_iff_getElem.mp found
  have k := (G.key (List.getElem_mem lt)).mp is
  exact ⟨_, List.getElem?_eq_getElem lt, k, G.keys.mem_iff.mp (List.mem_map.mpr ⟨_, List.getElem_mem lt, k⟩)⟩
theorem Gd.gone (G : Gd w es t xs) (found : List.findIdx? (fun e => (strKind P w).is x e.2) es.toList = none) : x ∉ xs := fun z => by
  obtain ⟨e, he, k⟩ := List.mem_map.mp (G.keys.mem_iff.mpr z)
  have no := List.findIdx?_eq_none_iff.mp found e he
  rw [(G.key he).mpr k] at no
  cases no
/-! ### its parts are read, and stored -/
theorem At.state {Q : Array (Int × Value) × Nat × SetTable → Shared → Prop} (R : At s.heap a es ep t) (fit : t.fits es.size = true) (q : Q (es, ep, t) s) : wpAny (model P w) A (setState a) Q E s := by
  obtain ⟨o, ho, _, hd⟩ := R
  exact wpAny_setState_of ho hd fit q
theorem At.store {Q : Unit → Shared → Prop} (R : At s.heap a es ep t) (few : fs.size ≤ sizeLine) (q : ∀ h', Heap.SameBut a s.heap h' → At h' a fs (ep + 1) u → Q () { s with heap := h' }) : wpAny (model P w) A (storeSet a fs u) Q E s := by
  obtain ⟨o, ho, ex, hd⟩ := R
  exact wpAny_storeSet_of ho hd (q _ (Heap.SameBut.update s.heap a _) ⟨_, store_at ho hd, ex, rfl⟩) few
/-- what is found -/
theorem At.scan {Q : ScanMet → Shared → Prop} {adding : Bool} (R : At s.heap a es ep t) (G : Gd w es t xs) (yes : ∀ j e, es.toList[j]? = some e → keyT e = x → x ∈ xs → Q (.found (0 + j)) s) (no : x ∉ xs → Q .absent s) :
    wpAny (model P w) A (setScan a (.str x tk) (hashStr w x) adding es) Q E s := by
  obtain ⟨o, ho, _, hd⟩ := R
  refine wpAny_setScan_of (knd := strKind P w) (k := x) (Froz.is_str x tk) ho hd G.fit G.elems ?_
  cases found : List.findIdx? (fun e => (strKind P w).is x e.2) es.toList with
  | some j =>
    obtain ⟨e, h1, h2, h3⟩ := G.there found
    exact yes j e h1 h2 h3
  | none => exact no (G.gone found)
/-- one text more -/
def ins (x : Str) (xs : List Str) : List Str := if x ∈ xs then xs else x :: xs
theorem lay_tail {g : Bool → Sem Unit} (calm : ∀ (b : Bool) (s' : Shared) (Q' : Unit → Shared → Prop), Q' () s' → wpAny (model P w) A (g b) Q' E s') (R : At s.heap a es ep t) (G : Gd w fs u ys) {dummy : Bool} {Q : Option Bool → Shared → Prop}
    (fin : ∀ h', Heap.SameBut a s.heap h' → SetT w h' a ys → Q (some true) { s with heap := h' }) :
    wpAny (model P w) A (do storeSet a fs u; if (!dummy && u.tooFull) = true then (do g (relayAll u fs (SetTable.grown fs.size)).2.2; storeSet a (relayAll u fs (SetTable.grown fs.size)).1 (relayAll u fs (SetTable.grown fs.size)).2.1; pure (some true)) else pure (some true)) Q E s := by
  refine wpAny_bind (R.store G.line fun h1 only1 R1 => ?_)
  split
  · have again : Gd w (relayAll u fs (SetTable.grown fs.size)).1 (relayAll u fs (SetTable.grown fs.size)).2.1 ys := G.moved (relayAll_perm ..) (relayAll_fits ..) (relayAll_ris ..) (by rw [relayAll_led]; exact G.led)
    exact wpAny_bind (calm _ _ _ (wpAny_bind (R1.store again.line fun h2 only2 R2 => wpAny_pure (fin h2 (only1.trans only2) ⟨_, _, _, R2, again⟩))))
  · exact wpAny_pure (fin h1 only1 ⟨_, _, _, R1, G⟩)
theorem SetT.add {Q : Bool → Shared → Prop} (R : SetT w s.heap a xs) (room : xs.length + 1 < scanBound) (fin : ∀ h', Heap.SameBut a s.heap h' → SetT w h' a (ins x xs) → Q (!decide (x ∈ xs)) { s with heap := h' }) : wpAny (model P w) A (setAddHashed a (.str x tk) (hashStr w x)) Q E s := by
  obtain ⟨es, ep, t, R, G⟩ := R
  unfold setAddHashed setAddHashedIn setAddByScan
  refine wpAny_holding (wpAny_bind (R.state G.fit ?_))
  dsimp only
  rw [byScan_of (knd := strKind P w) rfl G.few G.elems, if_pos rfl]
  refine wpAny_bind (wpAny_bind (wpAny_rule (wpAny_bind (R.scan G (fun j e _ _ yes => ?_) fun no => ?_))))
  · have same : ins x xs = xs := if_pos yes
    rw [same, decide_eq_true yes] at fin
    exact wpAny_pure (wpAny_pure (fin s.heap (Heap.SameBut.refl a s.heap) ⟨es, ep, t, R, G⟩))
  · have grown : ins x xs = x :: xs := if_neg no
    rw [grown, decide_eq_false no] at fin
    have N : Gd w (layNew t es (hashStr w x) (.str x tk)).1 (layNew t es (hashStr w x) (.str x tk)).2.1 (x :: xs) := G.more (tk := tk) no room (layNew_perm ..) (layNew_fits ..) (layNew_ris _ _ _ _ G.ris) (by rw [layNew_led]; exact G.led)
    generalize layNew t es (hashStr w x) (.str x tk) = Z at N ⊢
    obtain ⟨fs, u, dummy, gave⟩ := Z
    have calm : ∀ (b : Bool) (s' : Shared) (Q' : Unit → Shared → Prop), Q' () s' → wpAny (model P w) A (match b with | true => rule "set.scan.the-table-gave-way" | false => pure ()) Q' E s' := fun b s' Q' q => by
      cases b
      · exact wpAny_pure q
      · exact wpAny_rule q
    have off : Gd w fs { u with plain := false } (x :: xs) := N.moved (List.Perm.refl _) (SetTable.fits_plain_off N.fit) N.ris N.led
    dsimp only
    refine wpAny_bind (calm gave _ _ ?_)
    have last : ∀ u', Gd w fs u' (x :: xs) → ∀ Z : Sem (Option Bool), Z = _ → wpAny (model P w) A Z (fun r s' => wpAny (model P w) A (match r with | some b => pure b | none => setAddHashedIn a (.str x tk) (hashStr w x) 99999) Q E s') E s := fun u' N' Z e => by
      rw [e]
      exact lay_tail (dummy := dummy) calm R N' fun h' only made => wpAny_pure (fin h' only made)
    by_cases pl : u.plain = true
    · rw [if_pos pl, hashByValue_scannable 8 (show (Value.str x tk).scannable = true from rfl)]
      refine wpAny_bind (wpAny_pure ?_)
      exact last _ off _ rfl
    · rw [if_neg pl]
      refine wpAny_bind (wpAny_pure ?_)
      exact last _ N _ rfl
end
/-! ### a set of the items of a list or a tuple -/
/-- the set of all these texts -/
def Of (w : World) (h : Heap) (a : Addr) (xs : List Str) : Prop := ∃ ds : List Str, (∀ x, x ∈ ds ↔ x ∈ xs) ∧ ds.length ≤ xs.length ∧ SetT w h a ds
section
variable {P : Program} {w : World} {A : Around} {E : Value → Shared → Prop} {s : Shared} {h h' : Heap} {a : Addr} {xs ys : List Str} {x : Str}
theorem Of.at (R : Of w h a xs) (k : ∀ o, h.get? a = some o → h'.get? a = some o) : Of w h' a xs := by
  obtain ⟨ds, h1, h2, h3⟩ := R
  exact ⟨ds, h1, h2, h3.at k⟩
theorem mem_ins {y : Str} : y ∈ ins x xs ↔ y = x ∨ y ∈ xs := by
  unfold ins
  split
  · rename_i yes
    exact ⟨.inr, fun z => z.elim (fun e => e ▸ yes) id⟩
  · exact List.mem_cons
theorem len_ins : (ins x xs).length ≤ xs.length + 1 := by
  unfold ins
  split
  · exact Nat.le_succ _
  · exact Nat.le_refl _
theorem any_no {v : Value} {T : String} {Q : Bool → Shared → Prop} (ty : s.TypeIs v T) (n1 : isSubtype (.type T) (.type "set") = pure false) (n2 : isSubtype (.type T) (.type "frozenset") = pure false) (q : Q false s) : wpAny (model P w) A (Builtin.Frozenset.isAnySet v) Q E s :=
  wpAny_bind (wpAny_isInstance ty n1 (wpAny_isInstance ty n2 q))
theorem any_yes {v : Value} {Q : Bool → Shared → Prop} (ty : s.TypeIs v "set") (q : Q true s) : wpAny (model P w) A (Builtin.Frozenset.isAnySet v) Q E s := wpAny_bind (wpAny_isInstance ty sub_set_self (wpAny_pure q))
/-- the items to come are put in, one behind another -/
theorem loopT {I S : Addr} {fp wr : List Addr} {G : Array GenState → Array GenState → Prop} {Pv : Nat → Value → Prop} {St : Nat → Shared → Prop} {R : Result → Shared → Prop} (xs : List Str)
    (W : WalksS P w A.in1 I fp wr G xs.length Pv St) (off : S ∉ fp) (room : xs.length + 1 < scanBound) (hv : ∀ i v, Pv i v → ∃ x t, xs[i]? = some x ∧ v = .str x t) (fin : ∀ s', Moved (S :: wr) G s s' → Of w s'.heap S xs → R (.ok (.ret .none)) s') :
    ∀ (left i : Nat) (z : Shared), i + left = xs.length → Moved (S :: wr) G s z → St i z → Of w z.heap S (xs.take i) → codeAny (model P w) A (.builtin "set.update.loop" ⟨[.ref S, .ref I], []⟩) R z
  | 0, i, z, e, mv, st, so => by
    have off' : S ∉ wr := fun y => off (W.sub _ y)
    refine codeAny_builtin PyProof.Rows.F.entry_set_update_loop ?_
    rw [Around.under_plainId PyProof.Rows.F.plain_set_update_loop _]
    obtain rfl : i = xs.length := e
    rw [List.take_length] at so
    refine wpAny_bind (m := pyNext (.ref I)) (W.done z _ _ st fun z' mv' => wpAny_pure (fin z' (mv.trans W.gtrans (mv'.mono fun c hc => List.mem_cons_of_mem _ hc)) (so.at fun o ho => mv'.heap S o off' ho)))
  | left + 1, i, z, e, mv, st, so => by
    have off' : S ∉ wr := fun y => off (W.sub _ y)
    refine codeAny_builtin PyProof.Rows.F.entry_set_update_loop ?_
    rw [Around.under_plainId PyProof.Rows.F.plain_set_update_loop _]
    refine wpAny_bind (m := pyNext (.ref I)) (W.item i z _ _ (by omega) st fun v z' hP st' mv' => ?_)
    obtain ⟨x, t, hx, rfl⟩ := hv i v hP
    obtain ⟨ds, d1, d2, d3⟩ := so.at (h' := z'.heap) fun o ho => mv'.heap S o off' ho
    rw [List.length_take] at d2
    unfold setAdd
    refine wpAny_bind (wpAny_holding (wpAny_holding (wpAny_bind ((strKind P w).pyHash (k := x) (Froz.is_str x t) (SetT.add (s := { z' with toks := z'.toks + 1 }) d3 (by omega) fun h2 only d4 => wpAny_pure ⟨plainId_quiet PyProof.Rows.F.plain_set_update_loop _, ?_⟩)))))
    have keep : ∀ c, c ≠ S → ∀ o, z'.heap.get? c = some o → h2.get? c = some o := fun c hc o ho => (only.2 c hc).trans ho
    refine loopT xs W off room hv fin left (i + 1) _ (by omega) (mv.trans W.gtrans ((mv'.mono fun c hc => List.mem_cons_of_mem _ hc).then_heap (Nat.le_succ _) fun c o hc ho => keep c (fun y => hc (y ▸ List.mem_cons_self)) o ho)) (W.frame _ z' _ _ st' (Nat.le_succ _) fun c hc o ho => keep c (fun y => off (y ▸ hc)) o ho) ⟨_, fun y => ?_, ?_, d4⟩
    · rw [mem_ins, d1, List.take_add_one, hx, List.mem_append, Option.toList_some, List.mem_singleton]
      exact Or.comm
    · have := len_ins (x := x) (xs := ds)
      rw [List.length_take]
      omega
/-- S.update(l), S new, l a list or a tuple of texts -/
theorem fromSeq {S l : Addr} {its : Array Value} (id : String) (xs : List Str) {Q : Unit → Shared → Prop} (hh : A.handled = none) (src : s.heap.IsList l its ∨ s.heap.IsTuple l its) (hv : ∀ (i : Nat) (v : Value), its[i]? = some v → ∃ x t, xs[i]? = some x ∧ v = Value.str x t) (hn : its.size = xs.length) (room : xs.length + 1 < scanBound)
    (new : SetT w s.heap S []) (fin : ∀ h' tk, Of w h' S xs → (∀ b o, b ≠ S → s.heap.get? b = some o → h'.get? b = some o) → Q () { s with heap := h', toks := tk }) : wpAny (model P w) A (Builtin.Frozenset.updateFrom id S (.ref l)) Q E s := by
  have isS : ∃ o, s.heap.get? S = some o ∧ o.cls = .type "set" := by
    obtain ⟨_, _, _, ⟨o, ho, ex, _⟩, _⟩ := new
    exact ⟨o, ho, ex.1⟩
  obtain ⟨oS, hS, cS⟩ := isS
  have ltS : S < s.heap.objs.size := Heap.lt_size hS
  have walk : ∀ (o : Obj) {St : Nat → Heap → Prop}, (S ≠ l) → (∀ A' : Around, A'.handled = none → Walks P w A' s.heap.objs.size [s.heap.objs.size, l] [s.heap.objs.size] its.size (fun i v => its[i]? = some v) St) → St 0 (s.heap.push o) →
      wpAny (model P w) A (do let _ ← runValue (.builtin "set.update.loop" ⟨[.ref S, .ref s.heap.objs.size], []⟩); pure ()) Q E { s with heap := s.heap.push o } := fun o St ne W st => by
    refine wpAny_bind (wpAny_runValue ?_)
    have W1 := (W A.in1 hh).toS
    rw [hn] at W1
    refine loopT (s := { s with heap := s.heap.push o }) xs W1 (fun y => ?_) room hv (fun z mv so => ?_) xs.length 0 _ (Nat.zero_add _) (Moved.refl W1.grefl) st ?_
    · rcases List.mem_cons.mp y with e | e
      · exact absurd e (Nat.ne_of_lt ltS)
      · exact ne (List.mem_singleton.mp e)
    · obtain ⟨h2, g2, d2, tk2, os2⟩ := z
      obtain rfl : g2 = s.gens := mv.gens
      obtain rfl : d2 = s.drawn := mv.drawn
      obtain rfl : os2 = s.os := mv.os
      refine wpAny_pure (fin h2 tk2 so fun b ob nb hb => mv.heap b ob (fun y => ?_) (Heap.get?_push_of_some _ hb))
      rcases List.mem_cons.mp y with e | e
      · exact nb e
      · exact absurd (List.mem_singleton.mp e) (Nat.ne_of_lt (Heap.lt_size hb))
    · exact ⟨[], fun x => by simp, Nat.zero_le _, new.at fun ob hb => Heap.get?_push_of_some _ hb⟩
  have apart : ∀ {T : String}, (Value.type "set" == Value.type T) = false → ∀ {ol : Obj}, s.heap.get? l = some ol → ol.cls = .type T → S ≠ l := fun {T} no {ol} hl cl e => by
    subst e
    rw [hl] at hS
    cases hS
    rw [cl] at cS
    rw [cS] at no
    simp at no
  unfold Builtin.Frozenset.updateFrom
  rcases src with il | il
  · obtain ⟨ol, hol, hcl, rest⟩ := il
    have ty : s.TypeIs (.ref l) "list" := ⟨ol, hol, hcl⟩
    refine wpAny_bind (any_no ty PySem.F.sub_list_set PySem.F.sub_list_frozenset ?_)
    rw [if_neg (by decide)]
    refine wpAny_bind (wpAny_typeOf ty ?_)
    rw [if_neg (by decide)]
    refine wpAny_bind (wpAny_pyIter_list ⟨ol, hol, hcl, rest⟩ ?_)
    exact walk _ (apart (T := "list") (by decide) hol hcl) (fun A' hA => Walks.list hA _ l (Nat.ne_of_lt (Heap.lt_size hol)) its) ⟨⟨_, Heap.get?_push_size _ rfl, rfl, rfl⟩, Heap.IsList.push ⟨ol, hol, hcl, rest⟩ _⟩
  · obtain ⟨ol, hol, hcl, rest⟩ := il
    have ty : s.TypeIs (.ref l) "tuple" := ⟨ol, hol, hcl⟩
    refine wpAny_bind (any_no ty PySem.F.sub_tuple_set PySem.F.sub_tuple_frozenset ?_)
    rw [if_neg (by decide)]
    refine wpAny_bind (wpAny_typeOf ty ?_)
    rw [if_neg (by decide)]
    refine wpAny_bind (wpAny_pyIter_tuple ⟨ol, hol, hcl, rest⟩ ?_)
    exact walk _ (apart (T := "tuple") (by decide) hol hcl) (fun A' hA => Walks.tuple hA _ l (Nat.ne_of_lt (Heap.lt_size hol)) its) ⟨⟨_, Heap.get?_push_size _ rfl, rfl, rfl⟩, Heap.IsTuple.push ⟨ol, hol, hcl, rest⟩ _⟩
/-- an empty set, new -/
theorem new_set {Q : Value → Shared → Prop} (fin : ∀ h' t, (∀ b o, s.heap.get? b = some o → h'.get? b = some o) → h'.objs.size = s.heap.objs.size + 1 → At h' s.heap.objs.size #[] 0 t → Gd w #[] t [] → t.mask = 7 → t.dummies = #[] → Q (.ref s.heap.objs.size) { s with heap := h' }) : wpAny (model P w) A (newSet (.type "set")) Q E s := by
  unfold newSet setsByText
  refine wpAny_bind (wpAny_bind (wpAny_askSetting (wpAny_pure ?_)))
  show wpAny _ _ (newObj (.type "set") _) _ _ _
  unfold newObj
  refine wpAny_bind (wpAny_alloc (wpAny_pure (fin _ _ (fun b o e => Heap.get?_push_of_some _ e) (Heap.size_push ..) ⟨_, Heap.get?_push_size _ rfl, ⟨rfl, rfl, rfl⟩, rfl⟩ ?_ rfl rfl)))
  refine ⟨fun e he => by simp at he, List.Perm.refl _, List.nodup_nil, by decide, by rfl, List.Pairwise.nil, ?_⟩
  show _ ∨ (!w.params.followText "set-order") = true
  cases w.params.followText "set-order"
  · exact .inr rfl
  · exact .inl rfl
/-- set.__new__(set, v) -/
theorem new_code (v : Value) {Q : Value → Shared → Prop} (fin : ∀ h', (∀ b o, s.heap.get? b = some o → h'.get? b = some o) → ∀ t, At h' s.heap.objs.size #[] 0 t → Gd w #[] t [] → t.dummies = #[] → Q (.ref s.heap.objs.size) { s with heap := h' }) : codeAny (model P w) A (.call (.builtin "set.__new__") ⟨[.type "set", v], []⟩) (wants Q E) s := by
  refine codeAny_of_tree ?_
  show wpAny _ A.in1 (checkBuiltinCall _ _ >>= fun _ => again _) _ _ s
  refine wpAny_bind (wpAny_of_eq (PySem.F.newCall_set_1 v) (wpAny_pure ⟨plainId_quiet PySem.F.plain_set_new _, codeAny_builtin PySem.F.entry_set_new ?_⟩))
  rw [Around.under_plainId PySem.F.plain_set_new _]
  unfold Builtin.«set.__new__» Builtin.Frozenset.newClass
  have own := sub_set_self
  generalize hN : newSet = N
  wp_walk
  subst hN
  exact new_set fun h' t keep _ R G _ d => wpAny_pure (fin h' keep t R G d)
end
/-! ### put together -/
section
variable {P : Program} {w : World} {A : Around} {E : Value → Shared → Prop} {s : Shared} {h h' : Heap} {a o : Addr} {xs ys : List Str} {es fs : Array (Int × Value)} {t u : SetTable} {ep : Nat} {x : Str} {tk : Tok}
/-- the entries, laid anew by a clean table -/
theorem Gd.laid (G : Gd w es t xs) {m : Nat} (finger moves : Nat) (led plain : Bool) (hm : UV.Msk m) (few : es.size ≤ m) (hl : w.params.followText "set-order" = true ∨ led = true) :
    ∃ u order, SetTable.laid m finger moves led plain (es.map (·.1)) = some (u, order) ∧ (order.filterMap (es[·]?)).size = es.size ∧ Gd w (order.filterMap (es[·]?)) u xs ∧ u.mask = m ∧ u.dummies = #[] := by
  obtain ⟨u, order, e, pm, ris, size, dm, mk, ld⟩ := UV.laid_ok (finger := finger) (moves := moves) (led := led) (plain := plain) (hs := es.map (·.1)) hm (by rw [Array.size_map]; exact few)
  rw [Array.size_map] at pm size
  have perm : (order.filterMap (es[·]?)).toList.Perm es.toList := by
    rw [Array.toList_filterMap]
    exact (pm.filterMap _).trans (by rw [filterMap_getElem?_range])
  have same : (order.filterMap (es[·]?)).size = es.size := by
    have := perm.length_eq
    rwa [Array.length_toList, Array.length_toList] at this
  refine ⟨u, order, e, same, G.moved perm ?_ ris (by rw [ld]; exact hl), mk, dm⟩
  unfold SetTable.fits SetTable.fill
  rw [size, same, mk, dm]
  simp
  omega
theorem At.relay {Q : Unit → Shared → Prop} {n : Nat} (R : At s.heap a es ep t) (G : Gd w es t xs) (lt : n < 128) (le : es.size ≤ n)
    (fin : ∀ h' fs u, Heap.SameBut a s.heap h' → At h' a fs (ep + 1) u → Gd w fs u xs → u.mask = SetTable.sizeAbove n - 1 → u.dummies = #[] → Q () { s with heap := h' }) : wpAny (model P w) A (setRelay a n) Q E s := by
  obtain ⟨mk, big, top⟩ := UV.above_ok lt
  obtain ⟨u, order, e, same, G2, m2, d2⟩ := G.laid t.finger (t.movedTo (SetTable.sizeAbove n - 1)) t.led t.plain mk (Nat.le_trans le big) G.led
  unfold setRelay
  refine wpAny_bind (R.state G.fit ?_)
  dsimp only
  rw [if_neg (by rw [sizeLine_eq]; omega), show t.relaid (es.map (·.1)) n = some (u, order) from e]
  refine wpAny_bind ?_
  show wpAny _ _ (if ((order.filterMap (es[·]?)).size != es.size) = true then _ else _) _ _ _
  rw [if_neg (by rw [same]; simp)]
  exact wpAny_pure (R.store G2.line fun h' only R2 => fin h' _ _ only R2 G2 m2 d2)
/-- room for more -/
theorem At.room {Q : Unit → Shared → Prop} {more : Nat} (R : At s.heap a es ep t) (G : Gd w es t xs) (mk : UV.Msk t.mask) (lt : (es.size + more) * 2 < 128)
    (fin : ∀ h' fs ep' u, Heap.SameBut a s.heap h' → At h' a fs ep' u → Gd w fs u xs → UV.Msk u.mask → more ≤ u.mask → (u.dummies = #[] ∨ u = t) → Q () { s with heap := h' }) : wpAny (model P w) A (setRoomFor a more) Q E s := by
  unfold setRoomFor
  refine wpAny_bind (R.state G.fit ?_)
  have fit := G.fit
  unfold SetTable.fits at fit
  obtain ⟨f1, f2⟩ := Bool.and_eq_true_iff.mp fit
  have place : t.place.size = es.size := beq_iff_eq.mp f1
  dsimp only
  unfold SetTable.roomFor
  split
  · rename_i wanted eq
    split at eq
    · cases eq
      have top := UV.above_ok (n := (t.place.size + more) * 2) (by rw [place]; exact lt)
      refine R.relay G (by rw [place]; exact lt) (by rw [place]; omega) fun h' fs u only R2 G2 m2 d2 => fin h' fs _ u only R2 G2 (m2 ▸ top.1) ?_ (.inl d2)
      rw [m2]
      have := top.2.1
      omega
    · cases eq
  · rename_i eq
    split at eq
    · exact (eq _ rfl).elim
    · rename_i no
      exact wpAny_pure (fin s.heap es ep t (Heap.SameBut.refl a s.heap) R G mk (by omega) (.inr rfl))
/-- its entries, in some order -/
theorem At.walk {Q : Array (Int × Value) → Shared → Prop} (R : At s.heap a es ep t) (G : Gd w es t xs) (fin : ∀ fs d, fs.toList.Perm es.toList → Q fs { s with drawn := d }) : wpAny (model P w) A (setWalk a) Q E s := by
  unfold setWalk
  refine wpAny_bind (R.state G.fit (wpAny_bind (wpAny_byText ?_)))
  by_cases by_ : w.params.followText "set-order" = true
  · rw [if_pos by_]
    exact wpAny_bind (wpAny_askSetting (wpAny_pure (fin _ _ (pick_perm _ _))))
  · rw [if_neg by_]
    split
    · exact wpAny_bind (drawOrder_at _ _ _ _ (Nat.le_of_eq Array.length_toList) fun ys d p => wpAny_pure (fin _ d p))
    · have led := G.led.resolve_left by_
      refine wpAny_bind ?_
      show wpAny _ _ (if (!t.led && decide (es.size > 1)) = true then _ else _) _ _ _
      rw [led, if_neg (by simp)]
      exact wpAny_pure (wpAny_pure (fin es s.drawn (List.Perm.refl _)))
theorem quiet {Q : Bool → Shared → Prop} (sets : List Addr) (each : ∀ b ∈ sets, ∃ es ep t xs, At s.heap b es ep t ∧ Gd w es t xs) (q : Q true s) : wpAny (model P w) A (setsQuiet sets) Q E s := by
  unfold setsQuiet
  dsimp only
  refine wpAny_bind (wpAny_forIn_list _ (fun l r z => z = s ∧ r.1 = none ∧ ∀ b ∈ l, b ∈ sets) _ (fun b rest r z hz => ?_) (fun r z hz => ?_) _ _ ⟨rfl, rfl, fun _ y => y⟩)
  · obtain ⟨rfl, hr, hin⟩ := hz
    obtain ⟨es, ep, t, xs, R, G⟩ := each b (hin b List.mem_cons_self)
    unfold setEntries
    refine wpAny_bind (wpAny_bind (R.state G.fit (wpAny_pure (wpAny_bind (wpAny_forIn_array' _ (fun l r y => y = z ∧ r.1 = none ∧ ∀ e ∈ l, Tx w e) _ (fun e more r y hy => ?_) (fun r y hy => ?_) _ _ ⟨rfl, rfl, G.tx⟩)))))
    · obtain ⟨rfl, _, tx⟩ := hy
      obtain ⟨x, tk, e1, _⟩ := tx e List.mem_cons_self
      rw [e1]
      exact wpAny_pure ⟨rfl, rfl, fun e he => tx e (List.mem_cons_of_mem _ he)⟩
    · obtain ⟨rfl, e, _⟩ := hy
      rw [e]
      exact wpAny_pure ⟨rfl, rfl, fun c hc => hin c (List.mem_cons_of_mem _ hc)⟩
  · obtain ⟨rfl, e, _⟩ := hz
    rw [e]
    exact wpAny_pure q
/-- its entries, in some order, that nobody sees; what is filled by them bears the mark -/
theorem At.unseen {Q : Array (Int × Value) → Shared → Prop} {others : List Addr} (R : At s.heap a es ep t) (G : Gd w es t xs) (each : ∀ b ∈ others, ∃ es ep t xs, At s.heap b es ep t ∧ Gd w es t xs) (fin : ∀ fs d, fs.toList.Perm es.toList → Q fs { s with drawn := d }) : wpAny (model P w) A (setWalkUnseen a others none) Q E s := by
  unfold setWalkUnseen
  refine wpAny_bind (R.state G.fit (wpAny_bind (wpAny_byText ?_)))
  dsimp only
  split
  · exact R.walk G fin
  · refine wpAny_bind (quiet _ (fun b hb => ?_) ?_)
    · rcases List.mem_cons.mp hb with rfl | hb
      · exact ⟨es, ep, t, xs, R, G⟩
      · exact each b hb
    · exact wpAny_bind (wpAny_rule (wpAny_pure (fin es s.drawn (List.Perm.refl _))))
theorem At.unseenF {Q : Array (Int × Value) → Shared → Prop} {others : List Addr} {f : Addr} {ef : Array (Int × Value)} {pf : Nat} {tf : SetTable} {zs : List Str} (R : At s.heap a es ep t) (G : Gd w es t xs) (each : ∀ b ∈ others, ∃ es ep t xs, At s.heap b es ep t ∧ Gd w es t xs) (F : At s.heap f ef pf tf) (GF : Gd w ef tf zs)
    (fin : ∀ fs d h' pf' tf', fs.toList.Perm es.toList → Heap.SameBut f s.heap h' → At h' f ef pf' tf' → Gd w ef tf' zs → tf'.mask = tf.mask → Q fs { s with heap := h', drawn := d }) : wpAny (model P w) A (setWalkUnseen a others (some f)) Q E s := by
  have stay : ∀ fs d, fs.toList.Perm es.toList → Q fs { s with drawn := d } := fun fs d p => fin fs d s.heap pf tf p (Heap.SameBut.refl f s.heap) F GF rfl
  unfold setWalkUnseen
  refine wpAny_bind (R.state G.fit (wpAny_bind (wpAny_byText ?_)))
  dsimp only
  split
  · exact R.walk G stay
  · refine wpAny_bind (quiet _ (fun b hb => ?_) ?_)
    · rcases List.mem_cons.mp hb with rfl | hb
      · exact ⟨es, ep, t, xs, R, G⟩
      · exact each b hb
    · refine wpAny_bind (wpAny_rule (wpAny_bind (F.state GF.fit ?_)))
      dsimp only
      split
      · refine wpAny_bind (F.store GF.line fun h' only F2 => wpAny_pure (fin es s.drawn h' _ _ (List.Perm.refl _) only F2 ?_ rfl))
        refine GF.moved (List.Perm.refl _) GF.fit GF.ris ?_
        rcases GF.led with y | y
        · exact .inl y
        · rcases G.led with z | z
          · exact .inl z
          · exact .inr (by rw [y, z]; rfl)
      · exact wpAny_pure (stay es s.drawn (List.Perm.refl _))
end
section
variable {P : Program} {w : World} {A : Around} {E : Value → Shared → Prop} {s : Shared} {h h' : Heap} {a o : Addr} {xs ys zs : List Str} {es fs : Array (Int × Value)} {t u : SetTable} {ep eo : Nat} {x : Str} {tk : Tok}
/-- zs has all of xs and ys, no others -/
def Both (xs ys zs : List Str) : Prop := (∀ x, x ∈ zs ↔ x ∈ xs ∨ x ∈ ys) ∧ zs.length ≤ xs.length + ys.length
/-- the keys of some entries -/
theorem Gd.key_mem (G : Gd w es t xs) {e : Int × Value} (he : e ∈ es.toList) : keyT e ∈ xs := G.keys.mem_iff.mp (List.mem_map.mpr ⟨e, he, rfl⟩)
/-- all of o's are put to a, one behind another -/
theorem one_by_one {Q : Unit → Shared → Prop} {body : Int × Value → PUnit → Sem (ForInStep PUnit)} (Ra : SetT w s.heap a xs) (Ro : At s.heap o fs eo u) (Go : Gd w fs u ys) (ne : a ≠ o) (few : xs.length + ys.length + 1 < scanBound) {gs : Array (Int × Value)} (pm : gs.toList.Perm fs.toList)
    (does : ∀ (x : Str) (tk : Tok) (z : Shared) (Q' : ForInStep PUnit → Shared → Prop) (zs : List Str), SetT w z.heap a zs → zs.length + 1 < scanBound → At z.heap o fs eo u → (∀ h', Heap.SameBut a z.heap h' → SetT w h' a (ins x zs) → At h' o fs eo u → Q' (.yield ⟨⟩) { z with heap := h' }) → wpAny (model P w) A (body (hashStr w x, .str x tk) ⟨⟩) Q' E z)
    (fin : ∀ h' zs, Heap.SameBut a s.heap h' → SetT w h' a zs → Both xs ys zs → Q () { s with heap := h' }) : wpAny (model P w) A (forIn gs ⟨⟩ body) Q E s := by
  refine wpAny_forIn_array' _ (fun l _ z => ∃ h' zs, z = { s with heap := h' } ∧ Heap.SameBut a s.heap h' ∧ SetT w h' a zs ∧ zs.length + l.length ≤ xs.length + ys.length ∧ (∀ x, x ∈ zs ∨ x ∈ l.map keyT ↔ x ∈ xs ∨ x ∈ ys) ∧ ∀ e ∈ l, Tx w e) _ (fun e rest b z hz => ?_) (fun b z hz => ?_) gs PUnit.unit ⟨s.heap, xs, rfl, Heap.SameBut.refl a s.heap, Ra, ?_, fun x => ?_, fun e he => Go.tx e (pm.mem_iff.mp he)⟩
  · obtain ⟨h1, zs, rfl, only, R1, len, mem, tx⟩ := hz
    obtain ⟨x, tk, e1, e2⟩ := tx e List.mem_cons_self
    obtain ⟨h, v⟩ := e
    simp only at e1 e2
    subst e1 e2
    rw [List.length_cons] at len
    have Ro1 : At h1 o fs eo u := Ro.at fun ob hb => (only.2 o ne.symm).trans hb
    refine does x tk { s with heap := h1 } _ zs R1 (by omega) Ro1 fun h2 only2 R2 _ => ⟨h2, _, rfl, only.trans only2, R2, ?_, fun y => ?_, fun e he => tx e (List.mem_cons_of_mem _ he)⟩
    · have := len_ins (x := x) (xs := zs)
      omega
    · rw [← mem y, mem_ins, List.map_cons, List.mem_cons]
      show (y = x ∨ y ∈ zs) ∨ _ ↔ y ∈ zs ∨ y = x ∨ _
      exact ⟨fun z => z.elim (fun z => z.elim (fun c => .inr (.inl c)) .inl) fun c => .inr (.inr c), fun z => z.elim (fun c => .inl (.inr c)) fun z => z.elim (fun c => .inl (.inl c)) .inr⟩
  · obtain ⟨h1, zs, rfl, only, R1, len, mem, _⟩ := hz
    exact fin h1 zs only R1 ⟨fun x => by rw [← mem x]; simp, by simpa using len⟩
  · have len : fs.toList.length = ys.length := Array.length_toList.trans Go.size
    have := pm.length_eq
    omega
  · exact or_congr_right (((pm.map keyT).trans Go.keys).mem_iff)
theorem merge {Q : Unit → Shared → Prop} {each : Sem Unit} (Ra : At s.heap a es ep t) (Ga : Gd w es t xs) (mk : UV.Msk t.mask) (Ro : At s.heap o fs eo u) (Go : Gd w fs u ys) (ne : a ≠ o) (lt : (es.size + fs.size) * 2 < 128)
    (calm : ∀ (z : Shared) (Q' : Unit → Shared → Prop), At z.heap o fs eo u → Q' () z → wpAny (model P w) A each Q' E z)
    (fin : ∀ h' d gs ep' v zs, Heap.SameBut a s.heap h' → At h' a gs ep' v → Gd w gs v zs → Both xs ys zs → (xs = [] → t.dummies = #[] → UV.Msk v.mask) → Q () { s with heap := h', drawn := d }) : wpAny (model P w) A (setMerge a o each) Q E s := by
  have sa := Ga.size
  have so := Go.size
  unfold setMerge
  rw [if_neg (by simpa using ne)]
  refine wpAny_bind (Ro.state Go.fit ?_)
  dsimp only
  by_cases none : fs.isEmpty = true
  · rw [if_pos none]
    obtain rfl : ys = [] := List.length_eq_zero_iff.mp (by rw [← so]; simpa using none)
    exact wpAny_pure (fin s.heap s.drawn es ep t xs (Heap.SameBut.refl a s.heap) Ra Ga ⟨fun x => by simp, by simp⟩ fun _ _ => mk)
  rw [if_neg none]
  refine wpAny_bind (Ra.room Ga mk lt fun h1 e1 p1 t1 only1 R1 G1 mk1 le1 dm1 => ?_)
  have Ro1 : At h1 o fs eo u := Ro.at fun ob hb => (only1.2 o ne.symm).trans hb
  refine wpAny_bind (R1.state (s := { s with heap := h1 }) G1.fit ?_)
  dsimp only
  have s1 := G1.size
  have led : w.params.followText "set-order" = true ∨ (t1.led && u.led) = true := by
    rcases G1.led with y | y
    · exact .inl y
    · rcases Go.led with z | z
      · exact .inl z
      · exact .inr (by rw [y, z]; rfl)
  have empty : t1.fill = 0 → xs = [] := fun f => by
    have fit := G1.fit
    unfold SetTable.fits at fit
    have place := beq_iff_eq.mp (Bool.and_eq_true_iff.mp fit).1
    unfold SetTable.fill at f
    exact List.length_eq_zero_iff.mp (by omega)
  unfold SetTable.road
  by_cases full : (t1.fill != 0) = true
  · rw [if_pos full]
    dsimp only
    refine wpAny_bind (Ro1.unseenF (s := { s with heap := h1 }) Go (fun b hb => ?_) R1 G1 fun gs d h2 p2 t2 pm only2 R2 G2 m2 => ?_)
    · obtain rfl := List.mem_singleton.mp hb
      exact ⟨_, _, _, _, R1, G1⟩
    · have Ro2 : At h2 o fs eo u := Ro1.at fun ob hb => (only2.2 o ne.symm).trans hb
      have bound : xs.length + ys.length + 1 < scanBound := by unfold scanBound; omega
      refine wpAny_bind (one_by_one (s := { s with heap := h2, drawn := d }) ⟨_, _, _, R2, G2⟩ Ro2 Go ne bound pm (fun x tk z Q' zs Rz few Rzo done => ?_) fun h3 zs only3 R3 both => ?_)
      · dsimp only
        refine wpAny_bind (wpAny_holding (Rz.add few fun h' only made => ?_))
        have back : At h' o fs eo u := Rzo.at fun ob hb => (only.2 o ne.symm).trans hb
        refine wpAny_bind (calm _ _ back (wpAny_bind (back.state (s := { z with heap := h' }) Go.fit ?_)))
        dsimp only
        rw [if_neg (by simp)]
        exact wpAny_pure (done h' only made back)
      · obtain ⟨_, _, _, R3, G3⟩ := R3
        refine wpAny_pure (fin h3 d _ _ _ zs ((only1.trans only2).trans only3) R3 G3 both fun e dm => ?_)
        · exfalso
          have : t1.fill = 0 := by
            have fit := G1.fit
            unfold SetTable.fits at fit
            have place := beq_iff_eq.mp (Bool.and_eq_true_iff.mp fit).1
            have dm2 : t1.dummies = #[] := dm1.elim id fun y => y ▸ dm
            unfold SetTable.fill
            rw [place, dm2, s1, e]
            rfl
          rw [this] at full
          simp at full
  · rw [if_neg full]
    have zero : t1.fill = 0 := by simpa using full
    obtain rfl := empty zero
    by_cases alike : (t1.mask == u.mask && u.dummies.isEmpty) = true
    · rw [if_pos alike]
      dsimp only
      have m1 : u.mask = t1.mask := (beq_iff_eq.mp (Bool.and_eq_true_iff.mp alike).1).symm
      refine R1.store (s := { s with heap := h1 }) Go.line fun h2 only2 R2 => fin h2 s.drawn _ _ _ ys (only1.trans only2) R2 (Go.moved (List.Perm.refl _) Go.fit Go.ris led) ⟨fun x => by simp, by simp⟩ fun _ _ => ?_
      show UV.Msk u.mask
      rw [m1]
      exact mk1
    · rw [if_neg alike]
      dsimp only
      obtain ⟨v, order, e, same, Gv, mv, dv⟩ := Go.laid t1.finger t1.moves (t1.led && u.led) (t1.plain && u.plain) mk1 le1 led
      rw [e]
      refine wpAny_bind ?_
      show wpAny _ _ (if ((order.filterMap (fs[·]?)).size != fs.size) = true then _ else _) _ _ _
      rw [if_neg (by rw [same]; simp)]
      exact wpAny_pure (R1.store (s := { s with heap := h1 }) Gv.line fun h2 only2 R2 => fin h2 s.drawn _ _ _ ys (only1.trans only2) R2 Gv ⟨fun x => by simp, by simp⟩ fun _ _ => mv ▸ mk1)
/-- a copy, new -/
theorem copy {Q : Value → Shared → Prop} (R : At s.heap a es ep t) (G : Gd w es t xs) (lt : es.size * 2 < 128)
    (fin : ∀ h' d gs ep' v zs, (∀ b ob, s.heap.get? b = some ob → h'.get? b = some ob) → At h' s.heap.objs.size gs ep' v → Gd w gs v zs → (∀ x, x ∈ zs ↔ x ∈ xs) → zs.length ≤ xs.length → UV.Msk v.mask → Q (.ref s.heap.objs.size) { s with heap := h', drawn := d }) : wpAny (model P w) A (Builtin.Frozenset.copyOf a) Q E s := by
  unfold Builtin.Frozenset.copyOf Builtin.Frozenset.baseOf
  refine wpAny_bind (wpAny_bind (wpAny_isInstance R.is sub_set_self (wpAny_pure ?_)))
  rw [if_pos rfl]
  refine wpAny_bind (new_set fun h1 t1 keep size1 R1 G1 m1 d1 => wpAny_bind (wpAny_pure (wpAny_bind ?_)))
  have lta : a < s.heap.objs.size := by
    obtain ⟨ob, hb, _⟩ := R
    exact Heap.lt_size hb
  refine merge (s := { s with heap := h1 }) R1 G1 (by rw [m1]; exact .inl rfl) (R.at fun ob hb => keep _ _ hb) G (Nat.ne_of_gt lta) (by simpa using lt) (fun z Q' _ q => wpAny_pure q) fun h2 d gs ep' v zs only R2 G2 both mk => wpAny_pure (fin h2 d gs ep' v zs (fun b ob hb => ?_) R2 G2 (fun x => by rw [both.1 x]; simp) (by simpa using both.2) (mk rfl d1))
  exact (only.2 b (Nat.ne_of_lt (Heap.lt_size hb))).trans (keep b ob hb)
end
section
variable {P : Program} {w : World} {A : Around} {E : Value → Shared → Prop} {s : Shared} {h h' : Heap} {a o : Addr} {xs ys zs : List Str} {es fs : Array (Int × Value)} {t u : SetTable} {ep eo : Nat} {x : Str} {tk : Tok}
theorem SetT.lt (R : SetT w h a xs) : a < h.objs.size := by
  obtain ⟨_, _, _, ⟨ob, hb, _⟩, _⟩ := R
  exact Heap.lt_size hb
theorem entry_or : entryFor table "set.__or__" = some Builtin.«frozenset.__or__» := entryFor_alias (id' := "frozenset.__or__") (by kernel_rfl) rfl (by decide +kernel) (by kernel_rfl)
theorem entry_minus : entryFor table "set.__sub__" = some Builtin.«frozenset.__sub__» := entryFor_alias (id' := "frozenset.__sub__") (by kernel_rfl) rfl (by decide +kernel) (by kernel_rfl)
/-- xs | ys -/
theorem call_or {Q : Value → Shared → Prop} (Ra : SetT w s.heap a xs) (Ro : SetT w s.heap o ys) (ne : a ≠ o) (few : (xs.length + ys.length) * 2 < 128)
    (fin : ∀ h' d zs, (∀ b ob, s.heap.get? b = some ob → h'.get? b = some ob) → SetT w h' s.heap.objs.size zs → Both xs ys zs → Q (.ref s.heap.objs.size) { s with heap := h', drawn := d }) : wpAny (model P w) A (call (.builtin "set.__or__") [.ref a, .ref o]) Q E s := by
  refine wpAny_call_entry PySem.F.slot_set_or Ra.is entry_or ?_ (PySem.F.args_set_or_2 _ _)
  show wpAny _ _ (Builtin.Frozenset.slot1 _ _ >>= _) _ _ _
  refine wpAny_bind (m := Builtin.Frozenset.slot1 _ _) (wpAny_pure ?_)
  refine wpAny_bind (wpAny_bind (any_yes Ra.is (any_yes Ro.is ?_)))
  rw [if_neg (by decide)]
  refine wpAny_bind (wpAny_pure (wpAny_bind ?_))
  show wpAny _ _ (Builtin.Frozenset.copyOf a >>= _) _ _ _
  obtain ⟨es, ep, t, Ra, Ga⟩ := Ra
  obtain ⟨fs, eo, u, Ro, Go⟩ := Ro
  have sa := Ga.size
  have so := Go.size
  have lta : a < s.heap.objs.size := SetT.lt (w := w) (xs := xs) ⟨_, _, _, Ra, Ga⟩
  have lto : o < s.heap.objs.size := SetT.lt (w := w) (xs := ys) ⟨_, _, _, Ro, Go⟩
  refine wpAny_bind (copy Ra Ga (by omega) fun h1 d1 gs p1 v ws keep R1 G1 mem len mk => ?_)
  dsimp only
  rw [if_pos (by simpa using ne.symm)]
  have Ro1 : At h1 o fs eo u := Ro.at fun ob hb => keep _ _ hb
  have s1 := G1.size
  unfold Builtin.Frozenset.updateFrom Builtin.Frozenset.merge
  refine wpAny_bind (wpAny_pure (wpAny_bind (wpAny_holding (wpAny_bind (any_yes (Ro1.is (s := { s with heap := h1, drawn := d1 })) ?_)))))
  rw [if_pos rfl]
  refine wpAny_bind (wpAny_pure (wpAny_bind ?_))
  unfold setEpoch
  refine wpAny_bind (Ro1.state (s := { s with heap := h1, drawn := d1 }) Go.fit (wpAny_pure ?_))
  refine merge (s := { s with heap := h1, drawn := d1 }) R1 G1 mk Ro1 Go (Nat.ne_of_gt lto) (by omega) (fun z Q' Rz q => ?_) fun h2 d2 ks p2 k zs only R2 G2 both _ => ?_
  · unfold Builtin.Frozenset.unchanged setEpoch
    refine wpAny_bind (wpAny_bind (Rz.state Go.fit (wpAny_pure ?_)))
    rw [if_neg (by simp)]
    exact wpAny_pure q
  · refine wpAny_pure (wpAny_pure ⟨_, rfl, fin h2 d2 zs (fun b ob hb => ?_) ⟨_, _, _, R2, G2⟩ ⟨fun x => by rw [both.1 x, mem x], by have := both.2; omega⟩⟩)
    exact (only.2 b (Nat.ne_of_lt (Heap.lt_size hb))).trans (keep b ob hb)
end
/-! ### taken from one another -/
section
variable {P : Program} {w : World} {A : Around} {E : Value → Shared → Prop} {s : Shared} {h h' : Heap} {a o : Addr} {xs ys zs : List Str} {es fs : Array (Int × Value)} {t u : SetTable} {ep eo : Nat} {x : Str} {tk : Tok}
theorem list_eraseAt {α : Type} (l : Array α) (i : Nat) : (SetTable.eraseAt l i).toList = l.toList.eraseIdx i := by
  unfold SetTable.eraseAt
  rw [Array.toList_append, Array.toList_extract, Array.toList_extract, List.eraseIdx_eq_take_drop_succ, List.extract_eq_take_drop, List.extract_eq_take_drop]
  rw [List.take_of_length_le (l := List.drop (i + 1) l.toList) (by rw [List.length_drop, Array.length_toList]; exact Nat.le_refl _)]
  simp
theorem size_eraseAt {α : Type} {l : Array α} {i : Nat} (lt : i < l.size) : (SetTable.eraseAt l i).size = l.size - 1 := by
  rw [← Array.length_toList, list_eraseAt, List.length_eraseIdx_of_lt (by rw [Array.length_toList]; exact lt), Array.length_toList]
theorem size_insertAt (l : Array Nat) (i x : Nat) (le : i ≤ l.size) : (SetTable.insertAt l i x).size = l.size + 1 := by
  unfold SetTable.insertAt
  rw [Array.size_append, Array.size_push, Array.size_extract, Array.size_extract]
  omega
theorem size_insertAt_le (l : Array Nat) (i x : Nat) : (SetTable.insertAt l i x).size ≤ l.size + 1 := by
  unfold SetTable.insertAt
  rw [Array.size_append, Array.size_push, Array.size_extract, Array.size_extract]
  omega
/-- one entry less -/
theorem Gd.drop (G : Gd w es t xs) {j : Nat} {e : Int × Value} (he : es.toList[j]? = some e) (hk : keyT e = x) : Gd w (SetTable.eraseAt es j) (t.drop j) (xs.erase x) := by
  have lt : j < es.size := by
    have := (List.getElem?_eq_some_iff.mp he).1
    rwa [Array.length_toList] at this
  have pm := erase_perm es.toList j e he
  have inx : x ∈ xs := hk ▸ G.keys.mem_iff.mp (List.mem_map.mpr ⟨e, List.mem_of_getElem? he, rfl⟩)
  have keys : (((SetTable.eraseAt es j).toList).map keyT).Perm (xs.erase x) := by
    rw [list_eraseAt]
    have two := (pm.map keyT).trans (G.keys.trans (List.perm_cons_erase inx))
    rw [List.map_cons, hk] at two
    exact two.cons_inv
  have fit := G.fit
  unfold SetTable.fits SetTable.fill at fit
  obtain ⟨f1, f2⟩ := Bool.and_eq_true_iff.mp fit
  have place : t.place.size = es.size := beq_iff_eq.mp f1
  have full := of_decide_eq_true f2
  have there : t.place[j]? = some t.place[j] := Array.getElem?_eq_getElem (by omega)
  have dropped : t.drop j = { t with place := SetTable.eraseAt t.place j, dummies := SetTable.insertAt t.dummies (SetTable.below t.dummies t.place[j]) t.place[j] } := by
    unfold SetTable.drop
    rw [there]
  refine ⟨fun d hd => G.tx d ?_, keys, G.nd.erase x, ?_, ?_, ?_, ?_⟩
  · rw [list_eraseAt] at hd
    exact List.mem_of_mem_eraseIdx hd
  · rw [size_eraseAt lt]
    have := G.few
    omega
  · unfold SetTable.fits SetTable.fill
    rw [dropped]
    have := size_insertAt_le t.dummies (SetTable.below t.dummies t.place[j]) t.place[j]
    generalize SetTable.insertAt t.dummies (SetTable.below t.dummies t.place[j]) t.place[j] = D at this ⊢
    simp only [size_eraseAt lt, size_eraseAt (l := t.place) (by omega : j < t.place.size), place]
    simp
    omega
  · rw [dropped]
    show Ris (SetTable.eraseAt t.place j).toList
    rw [list_eraseAt]
    exact List.Pairwise.sublist (List.eraseIdx_sublist _ _) G.ris
  · rw [dropped]
    exact G.led
theorem At.find {Q : Option Nat → Shared → Prop} (R : At s.heap a es ep t) (G : Gd w es t xs) (yes : ∀ j e, es.toList[j]? = some e → keyT e = x → x ∈ xs → Q (some (0 + j)) s) (no : x ∉ xs → Q none s) : wpAny (model P w) A (setFind a (.str x tk) (hashStr w x)) Q E s := by
  unfold setFind setFindIn
  refine wpAny_bind (R.state G.fit ?_)
  dsimp only
  rw [byScan_of (knd := strKind P w) rfl G.few G.elems, if_pos rfl]
  exact wpAny_bind (wpAny_rule (wpAny_bind (R.scan G (fun j e h1 h2 h3 => wpAny_pure (yes j e h1 h2 h3)) fun h3 => wpAny_pure (no h3))))
/-- one text less -/
theorem SetT.discard {Q : Bool → Shared → Prop} (R : SetT w s.heap a xs) (fin : ∀ b h', Heap.SameBut a s.heap h' → SetT w h' a (xs.erase x) → Q b { s with heap := h' }) : wpAny (model P w) A (setDiscardHashed a (.str x tk) (hashStr w x)) Q E s := by
  obtain ⟨es, ep, t, R, G⟩ := R
  unfold setDiscardHashed
  refine wpAny_bind (R.find G (fun j e h1 h2 h3 => ?_) fun no => ?_)
  · dsimp only
    rw [Nat.zero_add]
    have less := G.drop h1 h2
    refine wpAny_bind (R.state G.fit (wpAny_bind (R.store less.line fun h' only R2 => wpAny_bind (wpAny_point (wpAny_pure (fin true h' only ⟨_, _, _, R2, less⟩))))))
  · rw [List.erase_of_not_mem no] at fin
    exact wpAny_pure (fin false s.heap (Heap.SameBut.refl a s.heap) ⟨es, ep, t, R, G⟩)
/-- zs has those of xs that are not in ys -/
def Less (xs ys zs : List Str) : Prop := (∀ x, x ∈ zs ↔ x ∈ xs ∧ x ∉ ys) ∧ zs.length ≤ xs.length
theorem tidy {Q : Unit → Shared → Prop} (R : SetT w s.heap a xs) (few : xs.length < 32) (fin : ∀ h', Heap.SameBut a s.heap h' → SetT w h' a xs → Q () { s with heap := h' }) : wpAny (model P w) A (setTidy a) Q E s := by
  obtain ⟨es, ep, t, R, G⟩ := R
  have size := G.size
  unfold setTidy
  refine wpAny_bind (R.state G.fit ?_)
  dsimp only
  split
  · have grown : SetTable.grown es.size = es.size * 4 := by
      unfold SetTable.grown
      rw [if_neg (by omega)]
    rw [grown]
    exact R.relay G (by omega) (by omega) fun h' fs u only R2 G2 _ _ => fin h' only ⟨_, _, _, R2, G2⟩
  · exact wpAny_pure (fin s.heap (Heap.SameBut.refl a s.heap) ⟨es, ep, t, R, G⟩)
theorem same_epoch {Q : Unit → Shared → Prop} {id : String} (R : At s.heap a es ep t) (G : Gd w es t xs) (q : Q () s) : wpAny (model P w) A (Builtin.Frozenset.unchanged id a ep) Q E s := by
  unfold Builtin.Frozenset.unchanged setEpoch
  refine wpAny_bind (wpAny_bind (R.state G.fit (wpAny_pure ?_)))
  rw [if_neg (by simp)]
  exact wpAny_pure q
theorem size_of {Q : Nat → Shared → Prop} (R : At s.heap a es ep t) (G : Gd w es t xs) (q : Q xs.length s) : wpAny (model P w) A (Builtin.Frozenset.sizeOf a) Q E s := by
  unfold Builtin.Frozenset.sizeOf setEntries
  refine wpAny_bind (wpAny_bind (R.state G.fit (wpAny_pure (wpAny_pure ?_))))
  rw [G.size]
  exact q
/-- a without what is in o, where o is no greater than eight times a -/
theorem take_away {Q : Unit → Shared → Prop} {id : String} (Ra : SetT w s.heap a xs) (Ro : At s.heap o fs eo u) (Go : Gd w fs u ys) (ne : a ≠ o) (few : xs.length < 32) (small : ¬ ys.length / 8 > xs.length)
    (fin : ∀ h' d zs, Heap.SameBut a s.heap h' → SetT w h' a zs → Less xs ys zs → Q () { s with heap := h', drawn := d }) : wpAny (model P w) A (Builtin.Frozenset.differenceUpdate id a (.ref o)) Q E s := by
  unfold Builtin.Frozenset.differenceUpdate
  rw [if_neg (by simpa using ne.symm)]
  refine wpAny_bind (any_yes Ro.is ?_)
  rw [if_pos rfl]
  obtain ⟨es, ep, t, Ra, Ga⟩ := Ra
  refine wpAny_bind (wpAny_pure (wpAny_bind (size_of Ro Go (wpAny_bind (size_of Ra Ga ?_)))))
  rw [if_neg small]
  unfold setEpoch
  refine wpAny_bind (wpAny_bind (Ro.state Go.fit (wpAny_pure ?_)))
  dsimp only
  refine wpAny_bind (wpAny_holding (wpAny_bind (Ro.unseen Go (fun b hb => ?_) fun gs d pm => ?_)))
  · obtain rfl := List.mem_singleton.mp hb
    exact ⟨_, _, _, _, Ra, Ga⟩
  refine wpAny_bind (wpAny_forIn_array' _ (fun l _ z => ∃ h' zs, z = { s with heap := h', drawn := d } ∧ Heap.SameBut a s.heap h' ∧ SetT w h' a zs ∧ zs.Nodup ∧ zs.length ≤ xs.length ∧ (∀ x, (x ∈ zs ∧ x ∉ l.map keyT) ↔ (x ∈ xs ∧ x ∉ ys)) ∧ ∀ e ∈ l, Tx w e) _ (fun e rest b z hz => ?_) (fun b z hz => ?_) gs PUnit.unit ⟨s.heap, xs, rfl, Heap.SameBut.refl a s.heap, ⟨_, _, _, Ra, Ga⟩, Ga.nd, Nat.le_refl _, fun x => ?_, fun e he => Go.tx e (pm.mem_iff.mp he)⟩)
  · obtain ⟨h1, zs, rfl, only, R1, nd, len, mem, tx⟩ := hz
    obtain ⟨x, tk, e1, e2⟩ := tx e List.mem_cons_self
    obtain ⟨h, v⟩ := e
    simp only at e1 e2
    subst e1 e2
    refine wpAny_bind (wpAny_holding (R1.discard (s := { s with heap := h1, drawn := d }) fun b2 h2 only2 R2 => wpAny_bind (same_epoch (s := { s with heap := h2, drawn := d }) (Ro.at fun ob hb => ((only.trans only2).2 o ne.symm).trans hb) Go (wpAny_pure ⟨h2, _, rfl, only.trans only2, R2, nd.erase x, ?_, fun y => ?_, fun e he => tx e (List.mem_cons_of_mem _ he)⟩))))
    · exact Nat.le_trans List.length_erase_le len
    · rw [← mem y, nd.mem_erase_iff, List.map_cons, List.mem_cons]
      show (y ≠ x ∧ y ∈ zs) ∧ _ ↔ y ∈ zs ∧ ¬ (y = x ∨ _)
      rw [not_or]
      exact ⟨fun z => ⟨z.1.2, z.1.1, z.2⟩, fun z => ⟨⟨z.2.1, z.1⟩, z.2.2⟩⟩
  · obtain ⟨h1, zs, rfl, only, R1, nd, len, mem, _⟩ := hz
    refine wpAny_pure (tidy (s := { s with heap := h1, drawn := d }) R1 (by omega) fun h2 only2 R2 => fin h2 d zs (only.trans only2) R2 ⟨fun x => by rw [← mem x]; simp, len⟩)
  · rw [((pm.map keyT).trans Go.keys).mem_iff]
/-- xs - ys -/
theorem call_minus {Q : Value → Shared → Prop} (Ra : SetT w s.heap a xs) (Ro : SetT w s.heap o ys) (ne : a ≠ o) (few : xs.length < 32)
    (fin : ∀ h' d zs, (∀ b ob, s.heap.get? b = some ob → h'.get? b = some ob) → SetT w h' s.heap.objs.size zs → Less xs ys zs → Q (.ref s.heap.objs.size) { s with heap := h', drawn := d }) : wpAny (model P w) A (call (.builtin "set.__sub__") [.ref a, .ref o]) Q E s := by
  refine wpAny_call_entry PySem.F.slot_set_sub Ra.is entry_minus ?_ (PySem.F.args_set_sub_2 _ _)
  show wpAny _ _ (Builtin.Frozenset.slot1 _ _ >>= _) _ _ _
  refine wpAny_bind (m := Builtin.Frozenset.slot1 _ _) (wpAny_pure ?_)
  refine wpAny_bind (wpAny_bind (any_yes Ra.is (any_yes Ro.is ?_)))
  rw [if_neg (by decide)]
  refine wpAny_bind (wpAny_pure (wpAny_bind ?_))
  have lta := Ra.lt
  have lto := Ro.lt
  have is := Ro.is
  obtain ⟨es, ep, t, Ra, Ga⟩ := Ra
  obtain ⟨fs, eo, u, Ro, Go⟩ := Ro
  have sa := Ga.size
  have so := Go.size
  unfold Builtin.Frozenset.difference
  dsimp only
  refine wpAny_bind (any_yes is ?_)
  rw [if_neg (by decide)]
  refine wpAny_bind (wpAny_pure ?_)
  rw [if_neg (by simp), if_pos rfl]
  refine wpAny_bind (size_of Ro Go (wpAny_bind (size_of Ra Ga ?_)))
  by_cases much : xs.length / 4 > ys.length
  · rw [if_pos much]
    refine wpAny_bind (wpAny_rule (wpAny_bind (copy Ra Ga (by omega) fun h1 d1 gs p1 v ws keep R1 G1 mem len mk => wpAny_bind (wpAny_pure (wpAny_bind (wpAny_holding ?_))))))
    refine take_away (s := { s with heap := h1, drawn := d1 }) ⟨_, _, _, R1, G1⟩ (Ro.at fun ob hb => keep _ _ hb) Go (Nat.ne_of_gt lto) (by omega) (by omega) fun h2 d2 zs only R2 less => wpAny_pure (wpAny_pure ⟨_, rfl, fin h2 d2 zs (fun b ob hb => (only.2 b (Nat.ne_of_lt (Heap.lt_size hb))).trans (keep b ob hb)) R2 ⟨fun x => by rw [less.1 x, mem x], Nat.le_trans less.2 len⟩⟩)
  · rw [if_neg much]
    unfold Builtin.Frozenset.baseOf
    refine wpAny_bind (wpAny_bind (wpAny_isInstance Ra.is sub_set_self (wpAny_pure ?_)))
    rw [if_pos rfl]
    refine wpAny_bind (new_set fun h1 t1 keep size1 R1 G1 m1 dm1 => wpAny_bind (wpAny_pure (wpAny_bind ?_)))
    have Ra1 : At h1 a es ep t := Ra.at fun ob hb => keep _ _ hb
    have Ro1 : At h1 o fs eo u := Ro.at fun ob hb => keep _ _ hb
    unfold setEpoch
    refine wpAny_bind (Ra1.state (s := { s with heap := h1 }) Ga.fit (wpAny_pure (wpAny_bind (wpAny_holding ?_))))
    dsimp only
    rw [if_pos rfl]
    refine wpAny_bind (Ra1.unseenF (s := { s with heap := h1 }) Ga (fun b hb => ?_) R1 G1 fun gs d h2 p2 t2 pm only2 R2 G2 m2 => ?_)
    · rcases List.mem_cons.mp hb with rfl | hb
      · exact ⟨_, _, _, _, Ro1, Go⟩
      · obtain rfl := List.mem_singleton.mp hb
        exact ⟨_, _, _, _, R1, G1⟩
    have nea : a ≠ s.heap.objs.size := Nat.ne_of_lt lta
    have neo : o ≠ s.heap.objs.size := Nat.ne_of_lt lto
    have bound : xs.length + 1 < scanBound := by unfold scanBound; omega
    refine wpAny_bind (wpAny_forIn_array' _ (fun l _ z => ∃ h' zs, z = { s with heap := h', drawn := d } ∧ Heap.SameBut s.heap.objs.size h2 h' ∧ SetT w h' s.heap.objs.size zs ∧ zs.length + l.length ≤ xs.length ∧ (∀ x, (x ∈ zs ∨ x ∈ l.map keyT ∧ x ∉ ys) ↔ (x ∈ xs ∧ x ∉ ys)) ∧ ∀ e ∈ l, Tx w e) _ (fun e rest b z hz => ?_) (fun b z hz => ?_) gs PUnit.unit ⟨h2, [], rfl, Heap.SameBut.refl _ h2, ⟨_, _, _, R2, G2⟩, ?_, fun x => ?_, fun e he => Ga.tx e (pm.mem_iff.mp he)⟩)
    · obtain ⟨h3, zs, rfl, only, R3, len, mem, tx⟩ := hz
      obtain ⟨x, tk, e1, e2⟩ := tx e List.mem_cons_self
      obtain ⟨h, v⟩ := e
      simp only at e1 e2
      subst e1 e2
      rw [List.length_cons] at len
      have Ra3 : At h3 a es ep t := Ra1.at fun ob hb => ((only2.trans only).2 a nea).trans hb
      have Ro3 : At h3 o fs eo u := Ro1.at fun ob hb => ((only2.trans only).2 o neo).trans hb
      have rest_ : ∀ y, (y = x ∨ y ∈ rest.map keyT) ↔ y ∈ ((hashStr w x, Value.str x tk) :: rest).map keyT := fun y => by
        rw [List.map_cons, List.mem_cons]
        exact Iff.rfl
      dsimp only
      rw [if_pos rfl]
      refine wpAny_bind (wpAny_holding (wpAny_bind (Ro3.find (s := { s with heap := h3, drawn := d }) Go (fun j e _ _ yes => wpAny_bind (wpAny_pure ?_)) fun no => wpAny_bind (wpAny_pure ?_))))
      · rw [if_neg (by simp)]
        refine wpAny_pure (wpAny_bind (same_epoch (s := { s with heap := h3, drawn := d }) Ra3 Ga (wpAny_pure ⟨h3, zs, rfl, only, R3, by omega, fun y => ?_, fun e he => tx e (List.mem_cons_of_mem _ he)⟩)))
        rw [← mem y, ← rest_ y]
        exact or_congr_right ⟨fun z => ⟨.inr z.1, z.2⟩, fun z => ⟨z.1.resolve_left fun c => z.2 (c ▸ yes), z.2⟩⟩
      · rw [if_pos (by simp)]
        refine wpAny_bind (R3.add (s := { s with heap := h3, drawn := d }) (by omega) fun h4 only4 R4 => wpAny_pure (wpAny_bind (same_epoch (s := { s with heap := h4, drawn := d }) (Ra3.at fun ob hb => (only4.2 a nea).trans hb) Ga (wpAny_pure ⟨h4, _, rfl, only.trans only4, R4, ?_, fun y => ?_, fun e he => tx e (List.mem_cons_of_mem _ he)⟩))))
        · have := len_ins (x := x) (xs := zs)
          omega
        · rw [← mem y, ← rest_ y, mem_ins]
          exact ⟨fun z => z.elim (fun z => z.elim (fun c => .inr ⟨.inl c, c ▸ no⟩) .inl) fun c => .inr ⟨.inr c.1, c.2⟩, fun z => z.elim (fun c => .inl (.inr c)) fun z => z.1.elim (fun c => .inl (.inl c)) fun c => .inr ⟨c, z.2⟩⟩
    · obtain ⟨h3, zs, rfl, only, R3, len, mem, _⟩ := hz
      refine wpAny_pure (wpAny_pure (wpAny_pure ⟨_, rfl, fin h3 d zs (fun b ob hb => ?_) R3 ⟨fun x => by rw [← mem x]; simp, by simpa using len⟩⟩))
      have nb : b ≠ s.heap.objs.size := Nat.ne_of_lt (Heap.lt_size hb)
      exact ((only2.trans only).2 b nb).trans (keep b ob hb)
    · have := pm.length_eq
      rw [Array.length_toList, Array.length_toList] at this
      simp only [List.length_nil, Array.length_toList]
      omega
    · rw [((pm.map keyT).trans Ga.keys).mem_iff]
      simp
end
section
variable {P : Program} {w : World} {A : Around} {E : Value → Shared → Prop} {s : Shared} {h h' : Heap} {a : Addr} {xs ys : List Str} {x : Str}
/-- set(l), l a list or a tuple of texts -/
theorem call_setT {l : Addr} {its : Array Value} (xs : List Str) {Q : Value → Shared → Prop} (hh : A.handled = none) (src : s.heap.IsList l its ∨ s.heap.IsTuple l its) (hv : ∀ (i : Nat) (v : Value), its[i]? = some v → ∃ x t, xs[i]? = some x ∧ v = Value.str x t) (hn : its.size = xs.length) (room : xs.length + 1 < scanBound)
    (fin : ∀ (h' : Heap) (tk : Nat), Of w h' s.heap.objs.size xs → (∀ b o, s.heap.get? b = some o → h'.get? b = some o) → Q (.ref s.heap.objs.size) { s with heap := h', toks := tk }) : wpAny (model P w) A (call (.type "set") [.ref l]) Q E s := by
  obtain ⟨c0, c1, mro⟩ := PySem.F.called_set.mro
  have made := PySem.F.called_set.made
  have sub0 := PySem.F.called_set.sub
  have n1 := PySem.F.called_set.notType
  have n2 := PySem.F.called_set.canCreate
  have n3 := PySem.F.typeCall_set_1 (.ref l)
  have i1 := PySem.F.called_set.init.lookup
  have i2 := PySem.F.called_set.init.bind (.ref s.heap.objs.size)
  refine wpAny_call (codeAny_of_tree ?_)
  show wpAny _ _ (callAny (.type "set") _) _ _ _
  refine wpAny_pure ⟨Code.quiet_builtin _ (by decide +kernel), codeAny_builtin PySem.F.entry_type_call ?_⟩
  rw [Around.under_plain (weight_type_call_type "set" [.ref l] []) rfl]
  repeat (any_goals first | assumption | wp_step)
  refine codeAny_mono (new_code (.ref l) (E := E) (Q := fun ob z => ∃ h' t, ob = .ref s.heap.objs.size ∧ z = { s with heap := h' } ∧ (∀ b o, s.heap.get? b = some o → h'.get? b = some o) ∧ At h' s.heap.objs.size #[] 0 t ∧ Gd w #[] t [] ∧ t.dummies = #[]) fun h' keep t R G d => ⟨h', t, rfl, rfl, keep, R, G, d⟩) fun r z hr => ?_
  rcases r with e | fl
  · exact hr
  cases fl with
  | ret ob =>
    obtain ⟨h1, t, rfl, rfl, keep, R, G, d⟩ := hr
    have ty := R.is (s := { s with heap := h1 })
    repeat (any_goals first | assumption | wp_step)
    refine codeAny_mono (codeAny_call_builtin (R := wants (fun r z => r = .none ∧ ∃ h' tk, z = { s with heap := h', toks := tk } ∧ Of w h' s.heap.objs.size xs ∧ ∀ b o, s.heap.get? b = some o → h'.get? b = some o) E) PySem.F.called_set.init.plain PySem.F.entry_set_init (check_set_init_1 ty ?_)) fun r2 z2 hr2 => ?_
    · unfold Builtin.«set.__init__» noKeywords setUsed
      have unused : (t.fill != 0) = false := by
        have fit := G.fit
        unfold SetTable.fits at fit
        have none := beq_iff_eq.mp (Bool.and_eq_true_iff.mp fit).1
        unfold SetTable.fill
        rw [none, d]
        rfl
      have used : ∀ {Q' : _ → Shared → Prop} {E' : Value → Shared → Prop}, Q' (#[], 0, t) { s with heap := h1 } → wpAny (model P w) A.in1.in1 (setState s.heap.objs.size) Q' E' { s with heap := h1 } := fun q => R.state G.fit q
      have R0 := R
      obtain ⟨⟨c1, c2, c3, c4⟩, ho, ⟨rfl, rfl, rfl⟩, hd⟩ := R
      generalize hU : Builtin.Frozenset.updateFrom = U
      generalize hV : setState = V at used ⊢
      wp_walk
      refine used ?_
      dsimp only
      rw [unused]
      refine wpAny_pure ?_
      rw [if_neg (by decide)]
      subst hU
      subst hV
      have kept : h1.IsList l its ∨ h1.IsTuple l its := src.imp (fun z => z.at fun o e => keep _ o e) (fun z => z.at fun o e => keep _ o e)
      have last : wpAny (model P w) A.in1.in1 (Builtin.Frozenset.updateFrom "set.__init__" s.heap.objs.size (.ref l)) (fun _ z => ∃ h' tk, z = { s with heap := h', toks := tk } ∧ Of w h' s.heap.objs.size xs ∧ ∀ b o, s.heap.get? b = some o → h'.get? b = some o) E { s with heap := h1 } :=
        fromSeq (s := { s with heap := h1 }) _ xs hh kept hv hn room ⟨_, _, _, R0, G⟩ fun h2 tk so rest => ⟨h2, tk, rfl, so, fun b o e => rest b o (Nat.ne_of_lt (Heap.lt_size e)) (keep b o e)⟩
      refine wpAny_bind (wpAny_mono last (fun _ z hz => ?_) fun _ _ y => y)
      obtain ⟨h2, tk, rfl, so, keep2⟩ := hz
      exact wpAny_pure ⟨rfl, h2, tk, rfl, so, keep2⟩
    · rcases r2 with e | fl2
      · exact hr2
      cases fl2 with
      | ret r =>
        obtain ⟨rfl, h', tk, rfl, so, keep2⟩ := hr2
        repeat (any_goals first | assumption | wp_step)
        exact fin _ _ so keep2
      | _ => exact hr2.elim
  | _ => exact hr.elim
end
section
variable {P : Program} {w : World} {A : Around} {E : Value → Shared → Prop} {s : Shared} {a : Addr} {xs : List Str}
def keyV (v : Value) : Str := match v with
  | .str x _ => x
  | _ => Str.empty
theorem texts_are : ∀ (l : List Value), (∀ v ∈ l, ∃ x tk, v = Value.str x tk) → StrsAre l (l.map keyV)
  | [], _ => .nil
  | v :: l, h => by
    obtain ⟨x, tk, rfl⟩ := h v List.mem_cons_self
    exact .cons x tk (texts_are l fun u hu => h u (List.mem_cons_of_mem _ hu))
/-- sorted(xs), xs a set of texts -/
theorem sorted_setT {Q : Value → Shared → Prop} (R : SetT w s.heap a xs) (hh : A.handled = none) (h64 : xs.length < 64)
    (fin : ∀ s' p (out : Array Value) (c : Nat) (ys : List Str), (∀ b o, s.heap.get? b = some o → s'.heap.get? b = some o) → s'.gens = s.gens → s'.os = s.os → s.heap.objs.size ≤ p → s'.heap.get? p = some (seqObj "list" out c) → StrsAre out.toList ys → ys.Perm xs → sortedS ys = true → Q (.ref p) s') :
    wpAny (model P w) A (call (.builtin "sorted") [.ref a]) Q E s := by
  obtain ⟨es, ep, t, ⟨o, ho, ex, hd⟩, G⟩ := R
  refine Calls.call_function_entry kind_sorted plain_sorted entry_sorted (args_sorted1 _) ?_
  unfold Builtin.«sorted»
  refine wpAny_bind (m := checkCount _ 1 1 _) (wpAny_pure (wpAny_bind (collect_set (A := A.in1) hh ⟨o, ho, ex.1, hd⟩ G.fit G.few G.ris G.led fun z vs keep wide gens os pm => ?_)))
  have tex : StrsAre vs (vs.map keyV) := texts_are vs fun v hv => by
    obtain ⟨e, he, rfl⟩ := List.mem_map.mp (pm.mem_iff.mp hv)
    obtain ⟨x, tk, e1, _⟩ := G.tx e he
    exact ⟨x, tk, e1⟩
  have same : (vs.map keyV).Perm xs := by
    have q := pm.map keyV
    rw [List.map_map] at q
    exact q.trans G.keys
  have count : vs.length = xs.length := by rw [← same.length_eq, List.length_map]
  refine wpAny_bind (wpAny_newList ?_ (by rw [count, sizeLine_eq]; omega))
  have here : (z.heap.push (seqObj "list" vs.toArray 0)).get? z.heap.objs.size = some (seqObj "list" vs.toArray 0) := Heap.get?_push_size _ rfl
  refine wpAny_bind (wpAny_holding (wpAny_call_entry slot_list_sort ⟨_, here, rfl⟩ entry_list_sort (list_sort_treeK strKind_oneLt here tex.keysOf (fun v₁ v₂ rest e => keyKind_strs (e ▸ tex)) (by omega) fun st hp hs => ⟨_, rfl, ?_⟩) (args_list_sort _)))
  obtain ⟨ys, y1, y2, y3⟩ := sorted_out_str tex hp hs
  obtain ⟨c, at_⟩ := sortedHeap_at (vs := vs) (out := (arrOf st).map (·.2)) here
  refine wpAny_pure ⟨_, rfl, fin _ _ _ c ys (fun b ob hb => ?_) gens os wide at_ y1 (y2.trans same) y3⟩
  have old := keep b ob hb
  have lt := Heap.lt_size old
  exact (sortedHeap_old (Nat.ne_of_lt lt) (by rw [size_push']; exact Nat.lt_succ_of_lt lt)).trans (Heap.get?_push_of_some _ old)
end
/-! ### as rules -/
/-- the set of texts at a -/
def TxO (w : World) (a : Addr) (xs : List Str) : HO := .ext fun h => SetT w h a xs
section
variable {X : Cx}
theorem txO_new {w : World} {P : Program} {H : Hp} {h : Heap} {a : Addr} {xs : List Str} (R : SetT w h a xs) : ObjOk P w H h a (TxO w a xs) := by
  have ⟨_, _, _, ⟨o, here, _⟩, _⟩ := R
  exact ⟨R, ⟨o, here⟩, fun h1 h2 p k => SetT.at p k⟩
theorem txO_get {pins : List (Addr × Obj)} {σ : L2.St} {H : Hp} {s : Shared} {a : Addr} {xs : List Str} (I : L2.Inv X pins σ H s) (ha : H a = some (TxO X.w a xs)) : SetT X.w s.heap a xs := (I.hok a _ ha).1
theorem txO_nd {pins : List (Addr × Obj)} {σ : L2.St} {H : Hp} {s : Shared} {a : Addr} {xs : List Str} (I : L2.Inv X pins σ H s) (ha : H a = some (TxO X.w a xs)) : xs.Nodup := by
  obtain ⟨_, _, _, _, G⟩ := txO_get I ha
  exact G.nd
/-- a new set of texts is there, the order of draws may be another -/
theorem new_there {pins : List (Addr × Obj)} {σ : L2.St} {H : Hp} {s : Shared} {h' : Heap} {d : Drawn} {tk : Nat} {zs : List Str} (I : L2.Inv X pins σ H s) (keep : ∀ b o, s.heap.get? b = some o → h'.get? b = some o) (R : SetT X.w h' s.heap.objs.size zs) : L2.Inv X pins σ (upd H s.heap.objs.size (TxO X.w s.heap.objs.size zs)) { s with heap := h', drawn := d, toks := tk } := by
  have free : H s.heap.objs.size = none := I.hok.fresh (Nat.le_refl _)
  exact I.call (h' := h') (d' := d) (t' := tk) (g' := s.gens) (ch := []) (Un.laid keep (Nat.le_refl _) free) (I.hok.laid keep (Nat.le_refl _) (txO_new R)) I.bare (fun _ z => nomatch z)
/-- set(xs) of a list or a tuple of texts -/
def rSetT (K : PySem.W.Frag) (w : World) : List V → Hp → VK → Prop := fun vs H Q => ∃ (l : Addr) (xs : List Str), vs = [.ref l] ∧ (SqL K H l (xs.map V.str) ∨ SqT K H l (xs.map V.str)) ∧ xs.length < 1000 ∧ ∀ p ds, H p = none → ds.Nodup → (∀ x, x ∈ ds ↔ x ∈ xs) → ds.length ≤ xs.length → Q (.ref p) (upd H p (TxO w p ds))
theorem cr_setT (hc : X.calm = true) : CallR X (.type "set") (rSetT X.K X.w) := fun pins s σ H vs us Q I r h => by
  obtain ⟨l, xs, rfl, hs, few, q⟩ := h
  have src : ∃ its : List Value, Vals (xs.map V.str) its ∧ (s.heap.IsList l its.toArray ∨ s.heap.IsTuple l its.toArray) := by
    rcases hs with hs | hs
    · obtain ⟨its, rv, hl, _⟩ := I.list hs
      exact ⟨its, rv, .inl hl.isList⟩
    · obtain ⟨its, rv, hl, _⟩ := I.tuple hs
      exact ⟨its, rv, .inr hl⟩
  obtain ⟨its, rv, src⟩ := src
  rw [Vals.ref1 r]
  have hlen : its.length = xs.length := by rw [← rv.length, List.length_map]
  refine call_setT xs (I.ok.hd hc) src (fun i v hi => ?_) (by rw [List.size_toArray]; exact hlen) (by unfold scanBound; omega) fun h' tk hT hk => ?_
  · obtain ⟨x, hx, rx⟩ := UP.vals_get rv (show its[i]? = some v by rw [← List.getElem?_toArray]; exact hi)
    obtain ⟨y, hy, rfl⟩ := UW.map_str_get hx
    obtain ⟨t, rfl⟩ := rx
    exact ⟨y, t, hy, rfl⟩
  · obtain ⟨ds, h2, h3, h4⟩ := hT
    have nd : ds.Nodup := by
      obtain ⟨_, _, _, _, G⟩ := h4
      exact G.nd
    exact ⟨.ref _, _, new_there I hk h4, rfl, q _ ds (I.hok.fresh (Nat.le_refl _)) nd h2 h3⟩
/-- xs | ys -/
def rOrT (w : World) : V → V → Hp → VK → Prop := fun x y H Q => ∃ (a o : Addr) (xs ys : List Str), x = .ref a ∧ y = .ref o ∧ a ≠ o ∧ H a = some (TxO w a xs) ∧ H o = some (TxO w o ys) ∧ xs.length + ys.length < 64 ∧ ∀ p zs, H p = none → zs.Nodup → Both xs ys zs → Q (.ref p) (upd H p (TxO w p zs))
theorem or_orT : OpR X (binaryOp .BitOr) (rOrT X.w) := fun pins s σ H x y u v Q I rx ry h => by
  obtain ⟨a, o, xs, ys, rfl, rfl, ne, ha, ho, few, q⟩ := h
  cases rx
  cases ry
  have Ra := txO_get I ha
  have Ro := txO_get I ho
  refine wpAny_binaryOp_same Ra.is Ro.is PySem.F.fills_set_or PySem.F.slot_set_or (call_or Ra Ro ne (by omega) fun h' d zs keep R both => ⟨nofun, ?_⟩)
  have nd : zs.Nodup := by
    obtain ⟨_, _, _, _, G⟩ := R
    exact G.nd
  exact ⟨.ref _, _, new_there I keep R, rfl, q _ zs (I.hok.fresh (Nat.le_refl _)) nd both⟩
/-- xs - ys -/
def rMinusT (w : World) : V → V → Hp → VK → Prop := fun x y H Q => ∃ (a o : Addr) (xs ys : List Str), x = .ref a ∧ y = .ref o ∧ a ≠ o ∧ H a = some (TxO w a xs) ∧ H o = some (TxO w o ys) ∧ xs.length < 32 ∧ ∀ p zs, H p = none → zs.Nodup → Less xs ys zs → Q (.ref p) (upd H p (TxO w p zs))
theorem or_minusT : OpR X (binaryOp .Sub) (rMinusT X.w) := fun pins s σ H x y u v Q I rx ry h => by
  obtain ⟨a, o, xs, ys, rfl, rfl, ne, ha, ho, few, q⟩ := h
  cases rx
  cases ry
  have Ra := txO_get I ha
  have Ro := txO_get I ho
  refine wpAny_binaryOp_same Ra.is Ro.is PySem.F.fills_set_sub PySem.F.slot_set_sub (call_minus Ra Ro ne few fun h' d zs keep R less => ⟨nofun, ?_⟩)
  have nd : zs.Nodup := by
    obtain ⟨_, _, _, _, G⟩ := R
    exact G.nd
  exact ⟨.ref _, _, new_there I keep R, rfl, q _ zs (I.hok.fresh (Nat.le_refl _)) nd less⟩
/-- sorted(xs), xs a set of texts -/
def rSortT (w : World) : List V → Hp → VK → Prop := fun vs H Q => ∃ (a : Addr) (xs : List Str), vs = [.ref a] ∧ H a = some (TxO w a xs) ∧ xs.length < 64 ∧ ∀ (ys : List Str) (p : Addr), ys.Perm xs → sortedS ys = true → H p = none → Q (.ref p) (upd H p (.lst (ys.map V.str)))
theorem cr_sortT (hc : X.calm = true) : CallR X (.builtin "sorted") (rSortT X.w) := fun pins s σ H vs us Q I r h => by
  obtain ⟨a, xs, rfl, ha, h64, q⟩ := h
  rw [Vals.ref1 r]
  refine sorted_setT (txO_get I ha) (I.ok.hd hc) h64 fun s' p out c ys keep gens os new at_ tex pm srt => ?_
  have few : (ys.map V.str).length ≤ sizeLine := by rw [List.length_map, pm.length_eq, sizeLine_eq]; omega
  have free : H p = none := I.hok.fresh new
  have J : L2.Inv X pins σ (upd H p (.lst (ys.map V.str))) { s with heap := s'.heap, gens := s'.gens, drawn := s'.drawn, toks := s'.toks } :=
    I.call (ch := []) (Un.laid keep new free) (I.hok.laid keep new ⟨few, out.toList, c, vals_of_strs tex, at_⟩) (by rw [gens]; exact I.bare) (fun _ z => nomatch z)
  have e : s' = { s with heap := s'.heap, gens := s'.gens, drawn := s'.drawn, toks := s'.toks } := by
    obtain ⟨_, _, _, _, _⟩ := s'
    obtain ⟨_, _, _, _, _⟩ := s
    cases os
    rfl
  rw [e]
  exact ⟨.ref p, _, J, rfl, q ys p pm srt free⟩
end
end UZ
/-! Pairs drawn by one iterator: a bridge from the walks of the library (WalksT) to a turn; zip of a locked dict (its keys) and a list over it. -/
namespace UK
open PySem L2
open PySem.Spec PyProof.Rows
section
variable {prog : Program} {w : World} {A : Around} {KT : Type} [DecidableEq KT] {knd : KeyKind prog w KT} {it d : Addr} {kvs : List (KT × Value)} {ep : Nat}
/-- behind the last key a key iterator ends: its draw is a new StopIteration -/
theorem key_end {E : Value → Shared → Prop} {s : Shared} {Q : Value → Shared → Prop} (hh : A.handled = none) (I : s.heap.IsKeyIter it d kvs.length kvs.length ep) (D : s.heap.DictAt knd d kvs ep)
    (q : ∀ h' e, Heap.ExtBut it s.heap h' → (∃ o, h'.get? e = some o ∧ o.cls = .type "StopIteration") → E (.ref e) { s with heap := h' }) : wpAny (model prog w) A (Builtin.SmallTypes.nextOf (.ref it)) Q E s := by
  have T := I.typeIs
  obtain ⟨oi, gi, ci, di⟩ := I
  obtain ⟨od, es, gd, xd, dd, _, pr, _⟩ := D
  have size : es.size = kvs.length := by simpa using pr.length
  refine wpAny_bind (wpAny_callSpecial?_slot T F.slot_dict_keyiterator_next (wpAny_call_entry F.slot_dict_keyiterator_next T F.entry_dict_keyiterator_next ?_ (F.args_dict_keyiterator_next_1 _)))
  have own : Builtin.Dict_items.ownsTuple ((Manifest.find? "dict_keyiterator").elim "dict_keyiterator" fun x => x.tpName) = false := by decide +kernel
  wp_walk
  rw [di]
  wp_walk
  simp only [own, Bool.false_eq_true, if_false, List.drop_zero, List.take_succ_cons, List.take_zero, show (Value.ref d == Value.none) = false from rfl]
  wp_walk
  rw [dd]
  wp_walk
  rw [dd]
  wp_walk
  simp only [show ¬ ((kvs.length : Int) < 0) from by omega, if_false, Int.toNat_natCast, Array.getElem?_eq_none (show es.size ≤ kvs.length from Nat.le_of_eq size)]
  wp_walk
  rw [di]
  simp only [own, Bool.false_eq_true, if_false]
  wp_walk
  have clear : A.in1.handled = none := hh
  simp only [raiseNew]
  wp_walk
  exact q _ _ (((Heap.SameBut.update ..).extBut.push _).push _) ⟨_, Heap.get?_push_size _ rfl, rfl⟩
theorem draws_keys (hh : A.handled = none) (apart : d ≠ it) :
    Draws prog w A it [it, d] kvs.length (fun i v => ∃ k x, kvs[i]? = some (k, x) ∧ knd.is k v = true) (fun i h => h.IsKeyIter it d i kvs.length ep ∧ h.DictAt knd d kvs ep) := by
  refine ⟨fun i h st => ⟨_, st.1.choose_spec.1⟩, fun i h h' st k => ⟨st.1.at (k it List.mem_cons_self), ?_⟩, fun i s Q E lt st q => ?_, fun s Q E st q => key_end hh st.1 st.2 q⟩
  · obtain ⟨_, _, there, r⟩ := st.2
    exact ⟨_, _, k d (List.mem_cons_of_mem _ List.mem_cons_self) _ there, r⟩
  · have at_i : kvs[i]? = some (kvs[i].1, kvs[i].2) := List.getElem?_eq_getElem lt
    refine wpAny_bind (PySem.W.kdk_special st.1 st.2 at_i fun key h' is next same => wpAny_pure ?_)
    obtain ⟨_, _, there, r⟩ := st.2
    exact q key h' s.toks ⟨_, _, at_i, is⟩ ⟨next, _, _, same.extBut d _ apart there, r⟩ same
end
/-- iter(d) -/
theorem begins_keys (d : Addr) (es : Array DictEntry) (ep : Nat) (lo : (d == sysModules) = false) :
    Begins (.ref d) { cls := .type "dict_keyiterator", data := .fields #[.ref d, .int 0 0, .int es.size 0, .int ep 0] } fun h => h.DictRaw d es ep :=
  ⟨fun _ _ _ _ _ _ raw q => wpAny_pyIter_dict_raw lo raw q, fun _ _ raw k => raw.at (k d), rfl⟩

/-! ### from a walk of the library to a turn -/
/-- what a turn of pairs wants of a state in which the iterator z stands at i: a walk there, whose values are told by J -/
def PairsAt (X : Cx) (H : Hp) (s : Shared) (J : It) (z : Addr) (wr : List Addr) (tn : Nat → Heap → Prop) (i : Nat) : Prop :=
  ∃ (n : Nat) (Pt : Nat → Array Value → Prop) (St : Nat → Heap → Prop) (Mid : Nat → Addr → Heap → Prop) (fp : List Addr), WalksT X.prog X.w X.A z fp wr n Pt St Mid ∧ St i s.heap ∧ (∀ j h, St j h → tn j h) ∧ (J.stop i H → i = n) ∧
    (J.go i H → i < n ∧ ∀ vals, Pt i vals → ∃ xs, Vals xs vals.toList ∧ xs.length = 2 ∧ ∀ T, H T = none → J.yld i H (.ref T) (upd H T (.tup xs)))
theorem turn_of {P : Program} {w : World} {K : PySem.W.Frag} {elts : List Expr} {kk : Nat} {tpos : Pos} {J : It} {z : Addr} {fp wr : List Addr} {tn : Nat → Heap → Prop}
    (mem : z ∈ fp) (sub : ∀ c ∈ wr, c ∈ fp) (obj : ∀ i h, tn i h → ∀ b ∈ fp, ∃ o, h.get? b = some o ∧ ∀ v, o.data ≠ .cell v) (keep : ∀ i h h', tn i h → (∀ b ∈ fp, ∀ o, h.get? b = some o → h'.get? b = some o) → tn i h')
    (self : ∀ (A : Around) (i : Nat) (s : Shared) (Q : Value → Shared → Prop) (E : Value → Shared → Prop), tn i s.heap → Q (.ref z) s → wpAny (model P w) A (pyIter (.ref z)) Q E s)
    (src : ∀ X : Cx, X.prog = P → X.w = w → X.K = K → X.calm = true → ∀ i pins s σ H, Inv X pins σ H s → tn i s.heap → (J.go i H ∨ J.stop i H) → PairsAt X H s J z wr tn i) : Turn P w K (.Tuple elts kk tpos) J fp z tn := by
  refine ⟨mem, obj, keep, fun X e1 e2 e3 calm i pins s σ H E I free st go => ?_, fun X e1 e2 e3 calm i pins s σ H E I free st stop => ?_, self⟩
  · obtain ⟨n, Pt, St, Mid, fpW, W, here, back, _, told⟩ := src X e1 e2 e3 calm i pins s σ H I st (.inl go)
    obtain ⟨lt, told⟩ := told go
    subst e1 e2
    have old : ∀ c ∈ fp, c < s.heap.objs.size := fun c hc => Heap.lt_size (obj i _ st c hc).choose_spec.1
    refine W.item i s _ _ lt here fun T vals h1 tk pt new tup mid kept => ⟨_, rfl, W.go elts kk tpos i T _ _ _ mid fun h2 st2 kept2 => ?_⟩
    obtain ⟨xs, rel, two, yields⟩ := told vals pt
    have none_T := I.hok.fresh new
    obtain ⟨o, at_T, r⟩ := tup
    have ob : ObjOk X.prog X.w (upd H T (.tup xs)) h2 T (.tup xs) := ⟨by rw [two]; decide, vals.toList, rel, o, kept2 T o (W.apart i T _ mid) at_T, r⟩
    refine ⟨.ref T, _, I.turnedNew (t' := tk) (ch := wr) (fun b o nb e => kept2 b o nb (kept b o nb e)) (fun b hb => free b (sub b hb)) new ob, rfl, yields T none_T, back _ _ st2, fun b hb => ?_⟩
    rw [upd_ne (Nat.ne_of_lt (Nat.lt_of_lt_of_le (old b hb) new))]
    exact (free b hb).1
  · obtain ⟨n, Pt, St, Mid, fpW, W, here, _, ends, _⟩ := src X e1 e2 e3 calm i pins s σ H I st (.inr stop)
    subst e1 e2
    have e := ends stop
    subst e
    exact W.done s _ _ here fun h' tk kept => ⟨rfl, I.turnedL (t' := tk) (ch := wr) kept fun b hb => free b (sub b hb)⟩

/-! ### zip of a locked dict and a list -/
/-- the keys of the locked dict at d beside the list at b, in new pairs -/
def Itzd (K : PySem.W.Frag) (d : Addr) (o : Obj) (kvs : List (Key × V)) (b : Addr) : It :=
  ⟨fun i H => H d = some (.frz o (.dK kvs)) ∧ i < kvs.length ∧ ∃ ys : List V, SqL K H b ys ∧ kvs.length ≤ ys.length,
    fun i H v H' => ∃ T k x y, v = .ref T ∧ H T = none ∧ H' = upd H T (.tup [kV k, y]) ∧ kvs[i]? = some (k, x) ∧ ∀ ys, SqL K H b ys → ys[i]? = some y,
    fun i H => H d = some (.frz o (.dK kvs)) ∧ kvs.length = i ∧ ∃ ys : List V, SqL K H b ys ∧ kvs.length ≤ ys.length⟩
/-- how the iterator stands at turn i -/
structure ZAt (z TI TO i1 i2 d b : Addr) (n ep i : Nat) (h : Heap) : Prop where
  zip : IsZip h z TI TO .none
  its : IsTupOf2 h TI (.ref i1) (.ref i2)
  out : ∃ x y, IsTupOf2 h TO x y
  keys : h.IsKeyIter i1 d i n ep
  list : h.IsListIter i2 b i
theorem turn_zipD {P : Program} {w : World} {K : PySem.W.Frag} {elts : List Expr} {kk : Nat} {tpos : Pos} {d b z TI TO i1 i2 : Addr} {o : Obj} {es : Array DictEntry} {ep : Nat} {kvs : List (Key × V)}
    (data : o.data = .dict es ep) (S : ZipSep2 z TI TO i1 i2 [i1, d] [i2, b]) (n1 : d ≠ i1) (n2 : b ≠ i2) :
    Turn P w K (.Tuple elts kk tpos) (Itzd K d o kvs b) [z, TI, TO, i1, i2] z (ZAt z TI TO i1 i2 d b kvs.length ep) := by
  refine turn_of (wr := [z, TO, i1, i2]) (by simp) (by simp) (fun i h st c hc => ?_) (fun i h h' st k => ?_) (fun _ _ _ _ _ st q => wpAny_pyIter_zip st.zip q) (fun X e1 e2 e3 calm i pins s σ H I st either => ?_)
  · have cell : ∀ {c : Addr} {u : Obj}, h.get? c = some u → (∀ v, u.data ≠ .cell v) → ∃ o, h.get? c = some o ∧ ∀ v, o.data ≠ .cell v := fun e n => ⟨_, e, n⟩
    obtain ⟨_, _, out⟩ := st.out
    obtain ⟨_, g1, _, k1⟩ := st.keys
    obtain ⟨_, g2, _, k2⟩ := st.list
    simp only [List.mem_cons, List.not_mem_nil, or_false] at hc
    rcases hc with rfl | rfl | rfl | rfl | rfl
    · exact cell st.zip nofun
    · exact cell st.its nofun
    · exact cell out nofun
    · exact cell g1 (by rw [k1]; exact nofun)
    · exact cell g2 (by rw [k2]; exact nofun)
  · obtain ⟨x, y, out⟩ := st.out
    simp only [List.forall_mem_cons] at k
    exact ⟨k.1 _ st.zip, k.2.1 _ st.its, ⟨x, y, k.2.2.1 _ out⟩, st.keys.at k.2.2.2.1, st.list.at k.2.2.2.2.1⟩
  · subst e1 e2 e3
    have lock : H d = some (.frz o (.dK kvs)) := either.elim (·.1) (·.1)
    obtain ⟨ys, seq, le⟩ : ∃ ys : List V, SqL X.K H b ys ∧ kvs.length ≤ ys.length := either.elim (·.2.2) (·.2.2)
    obtain ⟨_, _, _, es', ep', vs, data', _, kv, dict⟩ := I.frzK lock
    obtain ⟨-, rfl⟩ := dict_ep data data'
    have len : kvs.length = vs.length := Paired.length kv
    obtain ⟨its, rel, list, _⟩ := I.list seq
    have len2 := rel.length
    have hot : X.A.in1.handled = none := I.ok.hd calm
    obtain ⟨x, y, out⟩ := st.out
    have few : min vs.length its.toArray.size = kvs.length := by
      rw [List.size_toArray]
      omega
    refine ⟨_, _, _, _, _, WalksT.zipD2 S (draws_keys (kvs := vs) (knd := mixKind X.prog X.w) (ep := ep') hot n1) (Draws.list hot i2 b n2 its.toArray), ⟨st.zip, st.its, ⟨x, y, out⟩, ⟨len ▸ st.keys, dict⟩, st.list, list.isList⟩, fun j h q => ⟨q.1, q.2.1, q.2.2.1, len ▸ q.2.2.2.1.1, q.2.2.2.2.1⟩, fun q => ?_, fun q => ⟨?_, fun vals pt => ?_⟩⟩
    · rw [few]
      exact q.2.1.symm
    · rw [few]
      exact q.2.1
    · obtain ⟨x1, x2, ⟨k, v, at_k, is⟩, at_2, rfl⟩ := pt
      obtain ⟨u, at_u, r⟩ := kv_get kv (List.getElem?_eq_getElem q.2.1)
      rw [at_u] at at_k
      cases at_k
      have at_y : ys[i]? = some (ys[i]'(Nat.lt_of_lt_of_le q.2.1 le)) := List.getElem?_eq_getElem _
      obtain ⟨u2, at_u2, r2⟩ := rel.get at_y
      have e : u2 = x2 := Option.some.inj (by rw [← at_u2, ← at_2]; simp)
      subst e
      exact ⟨_, .cons (relV_key is) (.cons r2 .nil), rfl, fun T none_T => ⟨T, _, _, _, rfl, none_T, rfl, List.getElem?_eq_getElem q.2.1, fun zs seq' => by rw [I.list_inj seq' seq]; exact at_y⟩⟩
def iZipD (K : PySem.W.Frag) (ta : TA) : TI := fun σ H R => ta σ H fun vs H1 => ∃ d b o kvs ys, vs = [.ref d, .ref b] ∧ H1 d = some (.frz o (.dK kvs)) ∧ SqL K H1 b ys ∧ R (Itzd K d o kvs b) H1
/-- a built-in class called with two values -/
theorem call_two {X : Cx} {T : String} {n : Str} {e e2 : Expr} {ta : TA} {p pos : Pos} {pins : List (Addr × Obj)} {σ : L2.St} {H : Hp} {s : Shared} {Q : List V → Hp → Prop} {R : Value → Shared → Prop} (hg : Gl X n) (hm : X.mg n = none) (hv : bootBuiltins n = some (.type T)) (ha : PA X [e, e2] ta) (I : Inv X pins σ H s) (h : ta σ H Q)
    (k : ∀ us vs s1 H1, Inv X pins σ H1 s1 → Vals vs us → Q vs H1 → wpAny (model X.prog X.w) X.A (call (.type T) us) R X.xe s1) (n1 : n ≠ "__name__") (n2 : (n == ("__debug__" : Str)) = false)
    (hs : starEach [e, e2] X.env = (false, eval e X.env) :: starEach [e2] X.env) (hpl : (backTo pos (starEach [e2] X.env)).any (·.1) = false) : wpAny (model X.prog X.w) X.A (eval (.Call (.Name n p) [e, e2] [] pos) X.env) R X.xe s := by
  have args := ha.run pos pins s σ H Q I h
  have made := thn args fun us s1 (r : ∃ vs H1, Inv X pins σ H1 s1 ∧ Vals vs us ∧ Q vs H1) => r.elim fun vs ⟨H1, I1, r1, q1⟩ => k us vs s1 H1 I1 r1 q1
  exact Call_ (ld_blt I hg hm hv (callWith_type1 made hs hpl) n1 n2)
theorem pi_zipD {X : Cx} {e e2 : Expr} {ta : TA} {p pos tpos : Pos} {elts : List Expr} {kk : Nat} (hg : Gl X "zip") (hm : X.mg "zip" = none) (ha : PA X [e, e2] ta)
    (hs : starEach [e, e2] X.env = (false, eval e X.env) :: starEach [e2] X.env := by rfl) (hpl : (backTo pos (starEach [e2] X.env)).any (·.1) = false := by rfl) :
    PI X (.Tuple elts kk tpos) (.Call (.Name "zip" p) [e, e2] [] pos) (iZipD X.K ta) := ⟨fun pins s σ H R I h => call_two hg hm PyProof.Rows.boot_zip ha I h (fun us vs s1 H1 I1 rel ⟨d, b, o, kvs, ys, ev, lock, seq, q⟩ => by
  subst ev
  obtain ⟨u1, us, rfl, r1, rel⟩ : ∃ u1 r, us = u1 :: r ∧ RelV (.ref d) u1 ∧ Vals [.ref b] r := by cases rel with | cons a b => exact ⟨_, _, rfl, a, b⟩
  obtain ⟨u2, rfl, r2⟩ := rel.one
  cases r1
  cases r2
  obtain ⟨lo, there, exact_, es, ep, vs, data, size, _, _⟩ := I1.frzK lock
  obtain ⟨its, _, list, _⟩ := I1.list seq
  have ld : d < s1.heap.objs.size := Heap.lt_size there
  have lb : b < s1.heap.objs.size := list.lt
  refine zip_begins2 (begins_keys d es ep lo) (begins_list b its.toArray) ⟨o, there, exact_, data⟩ list.isList fun h' zip its' out g1 g2 _ kept => wpAny_pyIter_zip zip ?_
  have new : ∀ c ∈ [s1.heap.objs.size + 4, s1.heap.objs.size + 2, s1.heap.objs.size + 3, s1.heap.objs.size, s1.heap.objs.size + 1], s1.heap.objs.size ≤ c := by
    simp only [List.forall_mem_cons, List.not_mem_nil, false_imp_iff, implies_true, and_true]
    exact ⟨Nat.le_add_right .., Nat.le_add_right .., Nat.le_add_right .., Nat.le_refl _, Nat.le_add_right ..⟩
  refine ⟨_, _, _, _, H1, rfl, I1.kept (t' := s1.toks) kept, turn_zipD (kvs := kvs) data (zip_sep2 (fp1 := [d]) (fp2 := [b]) (by simpa using ld) (by simpa using lb)) (Nat.ne_of_lt ld) (Nat.ne_of_lt (Nat.lt_succ_of_lt lb)), ⟨zip, its', ⟨_, _, out⟩, ⟨_, g1, rfl, by rw [size] <;> rfl⟩, ⟨_, g2, rfl, rfl⟩⟩, fun c hc => I1.fpOk (new c hc) (I1.hok.fresh (new c hc)), q⟩) (by decide) (by decide) hs hpl⟩
theorem walk_zipD {K : PySem.W.Frag} {d b : Addr} {o : Obj} {kvs : List (Key × V)} {ys : List V} (le : kvs.length ≤ ys.length) :
    Walk (Itzd K d o kvs b) kvs.length (fun H => H d = some (.frz o (.dK kvs)) ∧ SqL K H b ys) (YPair (fun i => kvs[i]?.map fun kv => kV kv.1) (fun i => ys[i]?)) := by
  refine ⟨fun i H lt q => ⟨q.1, lt, ys, q.2, le⟩, fun H q => ⟨q.1, rfl, ys, q.2, le⟩, fun i H v H' lt q y => ?_⟩
  obtain ⟨T, k, x, y, e, none_T, made, at_k, at_y⟩ := y
  exact ⟨T, kV k, y, e, none_T, made, by simp [at_k], at_y ys q.2⟩
end UK
/-! own layer: zip of a list and a tuple, `a, *b = a list`, global tuples -/
namespace UB
open PySem L2
open PySem.Spec PyProof.Rows PySem.W
/-! ### zip(list, tuple) -/
/-- the list at a and the tuple at b side by side, in new pairs, as long as the list; the tuple is as long -/
def Itlt (K : PySem.W.Frag) (a b : Addr) : It :=
  ⟨fun i H => ∃ xs ys : List V, SqL K H a xs ∧ SqT K H b ys ∧ xs.length = ys.length ∧ i < xs.length,
    fun i H v H' => ∃ T x y, v = .ref T ∧ H T = none ∧ H' = upd H T (.tup [x, y]) ∧ (∀ xs, SqL K H a xs → xs[i]? = some x) ∧ ∀ ys, SqT K H b ys → ys[i]? = some y,
    fun i H => ∃ xs ys : List V, SqL K H a xs ∧ SqT K H b ys ∧ xs.length = ys.length ∧ i = xs.length⟩
structure LtAt (z TI TO i1 i2 a b : Addr) (i : Nat) (h : Heap) : Prop where
  zip : IsZip h z TI TO .none
  its : IsTupOf2 h TI (.ref i1) (.ref i2)
  out : ∃ x y, IsTupOf2 h TO x y
  left : h.IsListIter i1 a i
  right : h.IsTupleIter i2 b i
theorem turn_lt {P : Program} {w : World} {K : PySem.W.Frag} {elts : List Expr} {kk : Nat} {tpos : Pos} {a b z TI TO i1 i2 : Addr} (S : ZipSep2 z TI TO i1 i2 [i1, a] [i2, b]) (n1 : a ≠ i1) (n2 : b ≠ i2) :
    Turn P w K (.Tuple elts kk tpos) (Itlt K a b) [z, TI, TO, i1, i2] z (LtAt z TI TO i1 i2 a b) := by
  refine UK.turn_of (wr := [z, TO, i1, i2]) (by simp) (by simp) (fun i h st c hc => ?_) (fun i h h' st k => ?_) (fun _ _ _ _ _ st q => wpAny_pyIter_zip st.zip q) (fun X e1 e2 e3 calm i pins s σ H I st either => ?_)
  · obtain ⟨_, _, out⟩ := st.out
    obtain ⟨_, g1, _, k1⟩ := st.left
    obtain ⟨_, g2, _, k2⟩ := st.right
    simp only [List.mem_cons, List.not_mem_nil, or_false] at hc
    rcases hc with rfl | rfl | rfl | rfl | rfl
    · exact ⟨_, st.zip, nofun⟩
    · exact ⟨_, st.its, nofun⟩
    · exact ⟨_, out, nofun⟩
    · exact ⟨_, g1, by rw [k1]; exact nofun⟩
    · exact ⟨_, g2, by rw [k2]; exact nofun⟩
  · obtain ⟨x, y, out⟩ := st.out
    simp only [List.forall_mem_cons] at k
    exact ⟨k.1 _ st.zip, k.2.1 _ st.its, ⟨x, y, k.2.2.1 _ out⟩, st.left.at k.2.2.2.1, st.right.at k.2.2.2.2.1⟩
  · subst e1 e2 e3
    obtain ⟨xs, ys, seq1, seq2, same⟩ : ∃ xs ys : List V, SqL X.K H a xs ∧ SqT X.K H b ys ∧ xs.length = ys.length := by
      rcases either with ⟨xs, ys, h1, h2, h3, _⟩ | ⟨xs, ys, h1, h2, h3, _⟩
      · exact ⟨xs, ys, h1, h2, h3⟩
      · exact ⟨xs, ys, h1, h2, h3⟩
    obtain ⟨its1, rel1, list, _⟩ := I.list seq1
    obtain ⟨its2, rel2, tup, _⟩ := I.tuple seq2
    have len1 := rel1.length
    have len2 := rel2.length
    have calm' : X.A.in1.handled = none := I.ok.hd calm
    have tup' : s.heap.IsTuple b its2.toArray := tup
    have few : min its1.toArray.size its2.toArray.size = xs.length := by
      rw [List.size_toArray, List.size_toArray]
      omega
    refine ⟨_, _, _, _, _, WalksT.zipD2 S (Draws.list calm' i1 a n1 its1.toArray) (Draws.tuple calm' i2 b n2 its2.toArray), ⟨st.zip, st.its, st.out, ⟨st.left, list.isList⟩, ⟨st.right, tup'⟩⟩, fun j h q => ⟨q.1, q.2.1, q.2.2.1, q.2.2.2.1.1, q.2.2.2.2.1⟩, fun q => ?_, fun q => ⟨?_, fun vals pt => ?_⟩⟩
    · obtain ⟨zs, _, s1, _, _, e⟩ := q
      rw [few, e, I.list_inj s1 seq1]
    · obtain ⟨zs, _, s1, _, _, lt⟩ := q
      rw [few, ← I.list_inj s1 seq1]
      exact lt
    · obtain ⟨zs, _, s1, _, _, lt⟩ := q
      rw [I.list_inj s1 seq1] at lt
      obtain ⟨u1, u2, at_1, at_2, rfl⟩ := pt
      have at_x : xs[i]? = some (xs[i]'lt) := List.getElem?_eq_getElem _
      have at_y : ys[i]? = some (ys[i]'(same ▸ lt)) := List.getElem?_eq_getElem _
      obtain ⟨v1, at_v1, r1⟩ := rel1.get at_x
      obtain ⟨v2, at_v2, r2⟩ := rel2.get at_y
      obtain rfl : v1 = u1 := Option.some.inj (by rw [← at_v1, ← at_1]; simp)
      obtain rfl : v2 = u2 := Option.some.inj (by rw [← at_v2, ← at_2]; simp)
      exact ⟨_, .cons r1 (.cons r2 .nil), rfl, fun T none_T => ⟨T, _, _, rfl, none_T, rfl, fun zs q => by rw [I.list_inj q seq1]; exact at_x, fun zs q => by rw [I.tuple_inj q seq2]; exact at_y⟩⟩
def iLt (K : PySem.W.Frag) (ta : TA) : TI := fun σ H R => ta σ H fun vs H1 => ∃ a b xs ys, vs = [.ref a, .ref b] ∧ SqL K H1 a xs ∧ SqT K H1 b ys ∧ R (Itlt K a b) H1
theorem pi_zipLT {X : Cx} {e e2 : Expr} {ta : TA} {p pos tpos : Pos} {elts : List Expr} {kk : Nat} (hg : Gl X "zip") (hm : X.mg "zip" = none) (ha : PA X [e, e2] ta)
    (hs : starEach [e, e2] X.env = (false, eval e X.env) :: starEach [e2] X.env := by rfl) (hpl : (backTo pos (starEach [e2] X.env)).any (·.1) = false := by rfl) :
    PI X (.Tuple elts kk tpos) (.Call (.Name "zip" p) [e, e2] [] pos) (iLt X.K ta) := ⟨fun pins s σ H R I h => UK.call_two hg hm PyProof.Rows.boot_zip ha I h (fun us vs s1 H1 I1 rel ⟨a, b, xs, ys, ev, seq1, seq2, q⟩ => by
  subst ev
  obtain ⟨u1, us, rfl, r1, rel⟩ : ∃ u1 r, us = u1 :: r ∧ RelV (.ref a) u1 ∧ Vals [.ref b] r := by cases rel with | cons a b => exact ⟨_, _, rfl, a, b⟩
  obtain ⟨u2, rfl, r2⟩ := rel.one
  cases r1
  cases r2
  obtain ⟨its1, _, list, _⟩ := I1.list seq1
  obtain ⟨its2, _, tup, _⟩ := I1.tuple seq2
  have tup' : s1.heap.IsTuple b its2.toArray := tup
  have la : a < s1.heap.objs.size := list.lt
  have lb : b < s1.heap.objs.size := Heap.lt_size tup'.choose_spec.1
  refine zip_begins2 (begins_list a its1.toArray) (begins_tuple b its2.toArray) list.isList tup' fun h' zip its' out g1 g2 _ kept => wpAny_pyIter_zip zip ?_
  have new : ∀ c ∈ [s1.heap.objs.size + 4, s1.heap.objs.size + 2, s1.heap.objs.size + 3, s1.heap.objs.size, s1.heap.objs.size + 1], s1.heap.objs.size ≤ c := by
    simp only [List.forall_mem_cons, List.not_mem_nil, false_imp_iff, implies_true, and_true]
    exact ⟨Nat.le_add_right .., Nat.le_add_right .., Nat.le_add_right .., Nat.le_refl _, Nat.le_add_right ..⟩
  exact ⟨_, _, _, _, H1, rfl, I1.kept (t' := s1.toks) kept, turn_lt (zip_sep2 (fp1 := [a]) (fp2 := [b]) (by simpa using la) (by simpa using lb)) (Nat.ne_of_lt la) (Nat.ne_of_lt (Nat.lt_succ_of_lt lb)), ⟨zip, its', ⟨_, _, out⟩, ⟨_, g1, rfl, rfl⟩, ⟨_, g2, rfl, rfl⟩⟩, fun c hc => I1.fpOk (new c hc) (I1.hok.fresh (new c hc)), q⟩) (by decide) (by decide) hs hpl⟩
theorem walk_lt {K : PySem.W.Frag} {a b : Addr} {xs ys : List V} (same : xs.length = ys.length) : Walk (Itlt K a b) xs.length (fun H => SqL K H a xs ∧ SqT K H b ys) (YPair (fun i => xs[i]?) (fun i => ys[i]?)) := by
  refine ⟨fun i H lt q => ⟨xs, ys, q.1, q.2, same, lt⟩, fun H q => ⟨xs, ys, q.1, q.2, same, rfl⟩, fun i H v H' lt q y => ?_⟩
  obtain ⟨T, x, y, e, none_T, made, at_x, at_y⟩ := y
  exact ⟨T, x, y, e, none_T, made, at_x xs q.1, at_y ys q.2⟩
/-! ### a, *b = a list -/
section
variable {prog : Program} {w : World} {A : Around} {E : Value → Shared → Prop} {s : Shared}
/-- the first apart, the rest in a new list -/
theorem unpack_rest {l : Addr} {items : Array Value} {f1 f2 : Value → Sem Unit} {Q : Unit → Shared → Prop} {u : Value} {us : List Value} (calm : A.handled = none) (L : s.heap.IsList l items) (whole : items.toList = u :: us) (few : items.size ≤ 16384)
    (q : ∀ (h' : Heap) (tk : Nat), (∀ b o, s.heap.get? b = some o → h'.get? b = some o) → wpAny (model prog w) A (assignInOrder [f1, f2] [u, .ref h'.objs.size]) Q E { s with heap := h'.push { cls := .type "list", data := .seq us.toArray }, toks := tk }) :
    wpAny (model prog w) A (unpack (.ref l) [(false, f1), (true, f2)]) Q E s := by
  have lt : l < s.heap.objs.size := L.choose_spec.1 |> Heap.lt_size
  have size : items.size = us.length + 1 := by
    rw [← Array.length_toList, whole]
    rfl
  unfold unpack unpackItems notIterableAtAll
  refine wpAny_bind (wpAny_holding (wpAny_bind (wpAny_bind (wpAny_specialOf L.typeIs slot_list_iter.lookup (wpAny_pure ?_)))))
  simp only [Bool.false_eq_true, if_false]
  refine wpAny_bind (wpAny_holding (wpAny_pyIter_list L (wpAny_bind (wpAny_holding (kun_draw (Nat.ne_of_lt lt) 1 0 _ _ ⟨_, Heap.get?_push_size _ rfl, rfl, rfl⟩ (L.push _) (by omega) fun h1 it1 same => ?_)))))
  have li1 : h1.IsList l items := (L.push _).extBut same.extBut (Nat.ne_of_lt lt)
  have lt1 : s.heap.objs.size < h1.objs.size := Heap.lt_size it1.choose_spec.1
  have ltl : l < h1.objs.size := Heap.lt_size li1.choose_spec.1
  rw [if_neg (by rw [whole]; simp)]
  refine wpAny_bind (wpAny_holding (kun_collect (s := { s with heap := h1 }) (items := items) (T := "list_iterator") (.inr (.inr (.inl rfl))) (Walks.list (A := A.in1) calm s.heap.objs.size l (Nat.ne_of_lt lt) items) (fun j z st => st.1.typeIs) (k := 1) (by omega) ⟨it1, li1⟩ lt1 ltl (fun h2 tk kept => ?_) (by rw [sizeLine_eq]; omega)))
  have rest : items.toList.drop 1 = us := by
    rw [whole]
    rfl
  rw [rest, if_neg (by simp)]
  have all : List.take (us.length - ([(false, f1), (true, f2)].length - 1 - (0 + 1))) us = us := List.take_of_length_le (by simp)
  have none_ : List.drop (us.length - ([(false, f1), (true, f2)].length - 1 - (0 + 1))) us = [] := List.drop_eq_nil_of_le (by simp)
  rw [all, none_, whole]
  refine wpAny_bind (wpAny_newList ?_ (by rw [sizeLine_eq]; omega))
  refine wpAny_pure (q h2 tk fun b o e => ?_)
  have nb : b ≠ s.heap.objs.size := Nat.ne_of_lt (Heap.lt_size e)
  exact kept b o nb (same.extBut b o nb (Heap.get?_push_of_some _ e))
end
section
variable {X : Cx} {e1 e2 : Expr} {g1 g2 : TG} {k : Nat} {p pos : Pos}
def gRest (K : PySem.W.Frag) (g1 g2 : TG) : TG := fun v σ H Q => ∃ (l : Addr) (y : V) (ys : List V), v = .ref l ∧ SqL K H l (y :: ys) ∧ ys.length ≤ 10000 ∧ ∀ D, H D = none → g1 y σ (upd H D (.lst ys)) fun σ1 H1 => g2 (.ref D) σ1 H1 Q
theorem pg_rest (calm : X.calm = true) (h1 : PG X e1 g1) (h2 : PG X e2 g2) (ha : assignEach [e1, .Starred e2 p] X.env = [(false, fun v => assign e1 X.env v), (true, fun v => assign e2 X.env v)] := by rfl) :
    PG X (.Tuple [e1, .Starred e2 p] k pos) (gRest X.K g1 g2) := ⟨fun pins s σ H v u Q I r h => by
  obtain ⟨l, y, ys, ev, seq, few, q⟩ := h
  subst ev
  cases r
  obtain ⟨its, rel, list, _⟩ := I.list seq
  obtain ⟨v1, vs, rfl, r1, r2⟩ : ∃ v1 vs, its = v1 :: vs ∧ RelV y v1 ∧ Vals ys vs := by cases rel with | cons a b => exact ⟨_, _, rfl, a, b⟩
  have len := r2.length
  rw [arm_assign_Tuple, ha]
  refine wpAny_bind (wpAny_standAt (unpack_rest (I.ok.hd calm) list.isList rfl (by simp; omega) fun h' tk kept => ?_))
  have I1 := I.kept (t' := tk) kept
  have J := I1.laid (t' := tk) (a := h'.objs.size) (o := .lst ys) (h' := h'.push { cls := .type "list", data := .seq vs.toArray }) (fun b o e => Heap.get?_push_of_some _ e) (Nat.le_refl _) ⟨by rw [sizeLine_eq]; omega, vs, 0, r2, Heap.get?_push_size _ rfl⟩
  refine assignInOrder_cons (thn (h1.run pins _ σ _ y v1 _ J r1 (q _ (I1.hok.fresh (Nat.le_refl _)))) fun _ s1 ⟨σ1, H1, I2, q1⟩ => ?_)
  refine assignInOrder_cons (thn (h2.run pins s1 σ1 H1 (.ref h'.objs.size) _ Q I2 rfl q1) fun _ s2 done => ?_)
  exact wpAny_pure done⟩
end
/-! ### global tuples, as they are written -/
inductive Gt where
  | s (x : Str)
  | i (n : Int)
  | p (m n : Int)
def pairB (its : List Value) (m n : Int) : Bool := match its with
  | [.int j _, .int k _] => decide (j = m) && decide (k = n)
  | _ => false
def tupB (K : PySem.W.Frag) (a : Addr) (ok : List Value → Bool) : Bool := match K.lookup a with
  | some ⟨.type c, _, .seq its _, _⟩ => decide (c = "tuple") && (decide (its.size ≤ 100) && ok its.toList)
  | _ => false
def itB (K : PySem.W.Frag) (v : Value) (g : Gt) : Bool := match g with
  | .s x => (match v with
    | .str y _ => decide (y = x)
    | _ => false)
  | .i n => (match v with
    | .int j _ => decide (j = n)
    | _ => false)
  | .p m n => (match v with
    | .ref b => tupB K b fun its => pairB its m n
    | _ => false)
def allB (K : PySem.W.Frag) : List Value → List Gt → Bool
  | [], [] => true
  | v :: vs, g :: gs => itB K v g && allB K vs gs
  | _, _ => false
def gtB (K : PySem.W.Frag) (a : Addr) (gs : List Gt) : Bool := tupB K a fun its => allB K its gs
def GtIs (K : PySem.W.Frag) (v : V) : Gt → Prop
  | .s x => v = .str x
  | .i n => v = .int n
  | .p m n => ∃ t, v = .ref t ∧ ∀ H, SqT K H t [.int m, .int n]
inductive All (K : PySem.W.Frag) : List V → List Gt → Prop
  | nil : All K [] []
  | cons {v g vs gs} : GtIs K v g → All K vs gs → All K (v :: vs) (g :: gs)
def GtAt (K : PySem.W.Frag) (a : Addr) (gs : List Gt) : Prop := ∃ vs, (∀ H, SqT K H a vs) ∧ All K vs gs
theorem tupB_ok {K : PySem.W.Frag} {a : Addr} {ok : List Value → Bool} (h : tupB K a ok = true) : ∃ its : List Value, ok its = true ∧ ∀ vs, Vals vs its → ∀ H, SqT K H a vs := by
  unfold tupB at h
  split at h
  · rename_i c _ its n _ q
    obtain ⟨h1, h2⟩ := He.ba h
    obtain ⟨h2, h3⟩ := He.ba h2
    have small : its.size ≤ 100 := of_decide_eq_true h2
    exact ⟨its.toList, h3, fun vs rel H => .inr ⟨_, its, n, q, congrArg Value.type (of_decide_eq_true h1), rfl, by rw [sizeLine_eq]; omega, rel⟩⟩
  · cases h
theorem itB_ok {K : PySem.W.Frag} {u : Value} {g : Gt} (h : itB K u g = true) : ∃ v, RelV v u ∧ GtIs K v g := by
  unfold itB at h
  cases g with
  | s x =>
    dsimp only at h
    split at h
    · rename_i y t
      exact ⟨.str x, ⟨t, by rw [of_decide_eq_true h]⟩, rfl⟩
    · cases h
  | i n =>
    dsimp only at h
    split at h
    · rename_i j t
      exact ⟨.int n, ⟨t, by rw [of_decide_eq_true h]⟩, rfl⟩
    · cases h
  | p m n =>
    dsimp only at h
    split at h
    · rename_i b
      obtain ⟨its, h1, h2⟩ := tupB_ok h
      refine ⟨.ref b, rfl, b, rfl, h2 _ ?_⟩
      unfold pairB at h1
      split at h1
      · rename_i j t k t'
        obtain ⟨e1, e2⟩ := He.ba h1
        exact .cons ⟨t, by rw [of_decide_eq_true e1]⟩ (.cons ⟨t', by rw [of_decide_eq_true e2]⟩ .nil)
      · cases h1
    · cases h
theorem allB_ok {K : PySem.W.Frag} : ∀ {us : List Value} {gs : List Gt}, allB K us gs = true → ∃ vs, Vals vs us ∧ All K vs gs
  | [], [], _ => ⟨[], .nil, .nil⟩
  | u :: us, g :: gs, h => by
    obtain ⟨h1, h2⟩ := He.ba (show (itB K u g && allB K us gs) = true from h)
    obtain ⟨v, r, is⟩ := itB_ok h1
    obtain ⟨vs, rs, all⟩ := allB_ok h2
    exact ⟨v :: vs, .cons r rs, .cons is all⟩
  | [], _ :: _, h => by cases h
  | _ :: _, [], h => by cases h
theorem gtB_ok {K : PySem.W.Frag} {a : Addr} {gs : List Gt} (h : gtB K a gs = true) : GtAt K a gs := by
  obtain ⟨its, h1, h2⟩ := tupB_ok h
  obtain ⟨vs, rel, all⟩ := allB_ok h1
  exact ⟨vs, h2 vs rel, all⟩
theorem All.strs {K : PySem.W.Frag} : ∀ {vs : List V} {xs : List Str}, All K vs (xs.map .s) → vs = xs.map V.str
  | _, [], .nil => rfl
  | _, x :: xs, .cons h t => by
    rw [List.map_cons, ← t.strs, show _ = V.str x from h]
theorem GtAt.strs {K : PySem.W.Frag} {a : Addr} {xs : List Str} (h : GtAt K a (xs.map .s)) (H : Hp) : SqT K H a (xs.map V.str) := by
  obtain ⟨vs, seq, all⟩ := h
  rw [← all.strs]
  exact seq H
end UB
/-! Walks where an exception is handled: the ends of the iterators of a list, a tuple, a dict's keys; turns over them. -/
namespace UJ
open PySem L2
open PySem.Spec PyProof.Rows
section
variable {prog : Program} {w : World} {A : Around} {E : Value → Shared → Prop} {s : Shared} {x1 it l d : Addr} {i : Nat} {items : Array Value} {Q : Option Value → Shared → Prop}
/-- the new StopIteration is chained to the exception that is handled, and goes no further -/
theorem stop_hot {hU : Heap} {t ob o1 : Obj} {vs vs1 : Array Value} {R : Fin → Shared → Prop} (hh : A.handled = some (.ref x1)) (g1 : hU.get? x1 = some o1) (d1 : o1.data = .fields vs1) (c1 : vs1[2]? = some .none)
    (co : ob.cls = .type "StopIteration") (dob : ob.data = .fields vs) (size : 2 < vs.size) (nt : t.isFreed = false) (no : ob.isFreed = false) (q : ∀ h', (∀ c o, hU.get? c = some o → h'.get? c = some o) → Q none { s with heap := h' }) :
    wpAny (model prog w) A.in1 (raiseNew (.ref (hU.push t).objs.size)) R (fun e s' => wpAny (model prog w) A (do
      let b ← isInstance e (.type "StopIteration")
      if b = true then pure none else throw e) Q E s') { s with heap := (hU.push t).push ob } := by
  have old : ∀ {c : Addr} {o : Obj}, hU.get? c = some o → (hU.push t).get? c = some o := fun e => Heap.get?_push_of_some _ e
  have new : ((hU.push t).push ob).get? (hU.push t).objs.size = some ob := Heap.get?_push_size _ no
  refine HotX.raiseNew_hot ⟨hh, o1, vs1, Heap.get?_push_of_some _ (old g1), d1, c1⟩ (Nat.ne_of_lt (Heap.lt_size (old g1))) new dob size ?_
  have put := Heap.get?_update_self (Obj.mapFields (·.setIfInBounds 2 (.ref x1))) new (Obj.isFreed_of_fields (Obj.data_mapFields dob _))
  refine wpAny_bind (wpAny_isInstance (T := "StopIteration") (b := true) ⟨_, put, (Obj.cls_mapFields ..).trans co⟩ isSubtype_stop (wpAny_pure (q _ fun c o e => ?_)))
  exact (Heap.get?_update_other _ _ (Nat.ne_of_gt (Heap.lt_size (old e)))).trans (Heap.get?_push_of_some _ (old e))
theorem list_end (hot : HotX.HotAt A x1 s.heap) (I : s.heap.IsListIter it l i) (L : s.heap.IsList l items) (past : items[i]? = none) (apart : x1 ≠ it)
    (q : ∀ h', Heap.ExtBut it s.heap h' → Q none { s with heap := h' }) : wpAny (model prog w) A (pyNext (.ref it)) Q E s := by
  have T := I.typeIs
  obtain ⟨oi, gi, ci, di⟩ := I
  obtain ⟨ol, gl, cl, nl, dl⟩ := L
  obtain ⟨hh, o1, vs1, g1, d1, c1⟩ := hot
  have ne : (Value.ref l == Value.none) = false := rfl
  refine wpAny_bind (wpAny_attempt (wpAny_callSpecial?_slot T slot_listiter_next (wpAny_call_entry slot_listiter_next T entry_listiter_next ?_ (args_listiter_next _))))
  wp_walk
  repeat first
    | (rw [di]; wp_walk)
    | (rw [dl]; wp_walk)
    | (simp only [ne, Bool.false_eq_true, if_false, Int.toNat_natCast, past]; wp_walk)
  exact stop_hot hh ((Heap.get?_update_other s.heap _ apart.symm).trans g1) d1 c1 rfl rfl (by simp; omega) rfl rfl fun h' k => q h' fun c o n e => k c o ((Heap.get?_update_other s.heap _ n.symm).trans e)
theorem tuple_end (hot : HotX.HotAt A x1 s.heap) (I : s.heap.IsTupleIter it l i) (L : s.heap.IsTuple l items) (past : items[i]? = none) (apart : x1 ≠ it)
    (q : ∀ h', Heap.ExtBut it s.heap h' → Q none { s with heap := h' }) : wpAny (model prog w) A (pyNext (.ref it)) Q E s := by
  have T := I.typeIs
  obtain ⟨oi, gi, ci, di⟩ := I
  obtain ⟨ol, gl, cl, nl, dl⟩ := L
  obtain ⟨hh, o1, vs1, g1, d1, c1⟩ := hot
  have ne : (Value.ref l == Value.none) = false := rfl
  refine wpAny_bind (wpAny_attempt (wpAny_callSpecial?_slot T F.slot_tuple_iterator_next (wpAny_call_entry F.slot_tuple_iterator_next T F.entry_tuple_iterator_next ?_ (F.args_tuple_iterator_next_1 _))))
  wp_walk
  repeat first
    | (rw [di]; wp_walk)
    | (rw [dl]; wp_walk)
    | (simp only [ne, Bool.false_eq_true, if_false, Int.toNat_natCast, past]; wp_walk)
  exact stop_hot hh ((Heap.get?_update_other s.heap _ apart.symm).trans g1) d1 c1 rfl rfl (by simp; omega) rfl rfl fun h' k => q h' fun c o n e => k c o ((Heap.get?_update_other s.heap _ n.symm).trans e)
theorem keys_end {n ep : Nat} {od : Obj} {es : Array DictEntry} (hot : HotX.HotAt A x1 s.heap) (I : s.heap.IsKeyIter it d i n ep) (gd : s.heap.get? d = some od) (dd : od.data = .dict es ep) (size : es.size = n) (past : n ≤ i) (apart : x1 ≠ it)
    (q : ∀ h', Heap.ExtBut it s.heap h' → Q none { s with heap := h' }) : wpAny (model prog w) A (pyNext (.ref it)) Q E s := by
  have T := I.typeIs
  obtain ⟨oi, gi, ci, di⟩ := I
  obtain ⟨hh, o1, vs1, g1, d1, c1⟩ := hot
  have own : Builtin.Dict_items.ownsTuple ((Manifest.find? "dict_keyiterator").elim "dict_keyiterator" fun x => x.tpName) = false := by decide +kernel
  have neg : ¬ ((i : Int) < 0) := by omega
  have over : es[i]? = none := Array.getElem?_eq_none (by omega)
  refine wpAny_bind (wpAny_attempt (wpAny_callSpecial?_slot T F.slot_dict_keyiterator_next (wpAny_call_entry F.slot_dict_keyiterator_next T F.entry_dict_keyiterator_next ?_ (F.args_dict_keyiterator_next_1 _))))
  wp_walk
  rw [di]
  wp_walk
  simp only [own, Bool.false_eq_true, if_false, List.drop_zero, List.take_succ_cons, List.take_zero, show (Value.ref d == Value.none) = false from rfl]
  wp_walk
  rw [dd]
  wp_walk
  rw [dd]
  wp_walk
  simp only [neg, if_false, Int.toNat_natCast, over]
  wp_walk
  rw [di]
  simp only [own, Bool.false_eq_true, if_false]
  wp_walk
  exact stop_hot hh ((Heap.get?_update_other s.heap _ apart.symm).trans g1) d1 c1 rfl rfl (by simp; omega) rfl rfl fun h' k => q h' fun c o n e => k c o ((Heap.get?_update_other s.heap _ n.symm).trans e)
end
/-! ### turns over one iterator -/
/-- the handled exception, apart from an iterator's object -/
theorem hot_apart {X : Cx} {pins : List (Addr × Obj)} {σ : L2.St} {H : Hp} {s : Shared} {it : Addr} (c : L2H.HotC X) (I : Inv X pins σ H s) (f : FpOk X pins H it) : ∃ x1, HotX.HotAt X.A x1 s.heap ∧ x1 ≠ it := by
  obtain ⟨p, ⟨hh, vs, data, none_⟩, mem⟩ := c
  have both := List.mem_append_left pins mem
  exact ⟨p.1, ⟨hh, p.2, vs, (I.pin p both).1, data, none_⟩, f.2.2.2.2.2 p both⟩
/-- a turn from what its draws are: a plain iterator at `it` whose object is told by n, vs -/
theorem turnH_of {P : Program} {w : World} {K : PySem.W.Frag} {tg : Expr} {J : It} {it : Addr} {n : String} {vs : Nat → Array Value}
    (plain : ["enumerate", "zip", "dict_itemiterator", "dict_reverseitemiterator", "odict_iterator", "itertools.zip_longest", "itertools.pairwise"].contains n = false)
    (self : ∀ (A : Around) (i : Nat) (s : Shared) (Q : Value → Shared → Prop) (E : Value → Shared → Prop), (∃ o, s.heap.get? it = some o ∧ o.cls = .type n ∧ o.data = .fields (vs i)) → Q (.ref it) s → wpAny (model P w) A (pyIter (.ref it)) Q E s)
    (item : ∀ X : Cx, X.prog = P → X.w = w → X.K = K → ∀ i pins s σ H, Inv X pins σ H s → (∃ o, s.heap.get? it = some o ∧ o.cls = .type n ∧ o.data = .fields (vs i)) → J.go i H → ∀ (Q : Option Value → Shared → Prop) (E : Value → Shared → Prop),
      (∀ u x h', RelV x u → J.yld i H x H → (∃ o, h'.get? it = some o ∧ o.cls = .type n ∧ o.data = .fields (vs (i + 1))) → Heap.SameBut it s.heap h' → Q (some u) { s with heap := h' }) → wpAny (model P w) X.A (pyNext (.ref it)) Q E s)
    (done : ∀ X : Cx, X.prog = P → X.w = w → X.K = K → ∀ i pins s σ H x1, Inv X pins σ H s → HotX.HotAt X.A x1 s.heap → x1 ≠ it → (∃ o, s.heap.get? it = some o ∧ o.cls = .type n ∧ o.data = .fields (vs i)) → J.stop i H → ∀ (Q : Option Value → Shared → Prop) (E : Value → Shared → Prop),
      (∀ h', Heap.ExtBut it s.heap h' → Q none { s with heap := h' }) → wpAny (model P w) X.A (pyNext (.ref it)) Q E s) :
    L2H.TurnH P w K tg J [it] it (fun i h => ∃ o, h.get? it = some o ∧ o.cls = .type n ∧ o.data = .fields (vs i)) := by
  refine ⟨List.mem_singleton_self it, fun i h st b hb => ?_, fun i h h' st k => ?_, fun X e1 e2 e3 hot i pins s σ H E I free st go => ?_, fun X e1 e2 e3 hot i pins s σ H E I free st stop => ?_, self⟩
  · obtain ⟨o, g, _, data⟩ := st
    rw [List.mem_singleton.mp hb]
    exact ⟨o, g, fun v z => by rw [data] at z; cases z⟩
  · obtain ⟨o, g, r⟩ := st
    exact ⟨o, k it (List.mem_singleton_self it) o g, r⟩
  · have f := free it (List.mem_singleton_self it)
    refine item X e1 e2 e3 i pins s σ H I st go _ _ fun u x h' rel y next same => ?_
    obtain ⟨o, g, cls, data⟩ := id next
    refine ⟨u, rfl, go_of (s := { s with heap := h' }) g cls data plain ⟨x, H, I.turned (t' := s.toks) (fun b ob nb e => same.extBut b ob nb e) f.1 f.2.1 f.2.2.2.1 f.2.2.2.2.1 f.2.2.2.2.2, rel, y, next, fun b hb => (free b hb).1⟩⟩
  · have f := free it (List.mem_singleton_self it)
    obtain ⟨x1, at_, apart⟩ := hot_apart hot I f
    exact done X e1 e2 e3 i pins s σ H x1 I at_ apart st stop _ _ fun h' ext => ⟨rfl, I.turned (t' := s.toks) (fun b ob nb e => ext b ob nb e) f.1 f.2.1 f.2.2.2.1 f.2.2.2.2.1 f.2.2.2.2.2⟩
section
variable {P : Program} {w : World} {K : PySem.W.Frag} {tg : Expr}
theorem turnH_list (a it : Addr) : L2H.TurnH P w K tg (Itl K a) [it] it (fun i h => ∃ o, h.get? it = some o ∧ o.cls = .type "list_iterator" ∧ o.data = .fields #[.ref a, .int i 0]) := by
  refine turnH_of (vs := fun i => #[.ref a, .int i 0]) (by decide) (fun _ _ _ _ _ st q => wpAny_pyIter_listiter st q) (fun X e1 e2 e3 i pins s σ H I st go Q E q => ?_) (fun X e1 e2 e3 i pins s σ H x1 I hot apart st stop Q E q => ?_)
  · subst e1 e2 e3
    obtain ⟨xs, x, seq, at_i⟩ := go
    obtain ⟨its, rel, list, _⟩ := I.list seq
    obtain ⟨u, at_u, r⟩ := rel.get at_i
    exact wpAny_pyNext_list_item st list.isList (x := u) (by simpa using at_u) fun h' next same => q u x h' r ⟨rfl, fun ys seq' => by rw [I.list_inj seq' seq]; exact at_i⟩ next same
  · subst e1 e2 e3
    obtain ⟨xs, seq, past⟩ := stop
    obtain ⟨its, rel, list, _⟩ := I.list seq
    have len := rel.length
    exact list_end hot st list.isList (by simp; omega) apart q
theorem turnH_tuple (a it : Addr) : L2H.TurnH P w K tg (Itt K a) [it] it (fun i h => ∃ o, h.get? it = some o ∧ o.cls = .type "tuple_iterator" ∧ o.data = .fields #[.ref a, .int i 0]) := by
  refine turnH_of (vs := fun i => #[.ref a, .int i 0]) (by decide) (fun _ _ _ _ _ st q => wpAny_pyIter_tupleiter st q) (fun X e1 e2 e3 i pins s σ H I st go Q E q => ?_) (fun X e1 e2 e3 i pins s σ H x1 I hot apart st stop Q E q => ?_)
  · subst e1 e2 e3
    obtain ⟨xs, x, seq, at_i⟩ := go
    obtain ⟨its, rel, tup, _⟩ := I.tuple seq
    obtain ⟨u, at_u, r⟩ := rel.get at_i
    exact wpAny_pyNext_tuple_item st (show s.heap.IsTuple a its.toArray from tup) (x := u) (by simpa using at_u) fun h' next same => q u x h' r ⟨rfl, fun ys seq' => by rw [I.tuple_inj seq' seq]; exact at_i⟩ next same
  · subst e1 e2 e3
    obtain ⟨xs, seq, past⟩ := stop
    obtain ⟨its, rel, tup, _⟩ := I.tuple seq
    have len := rel.length
    exact tuple_end hot st (show s.heap.IsTuple a its.toArray from tup) (by simp; omega) apart q
theorem turnH_keys {d : Addr} {o : Obj} {es : Array DictEntry} {ep : Nat} {kvs : List (Key × V)} (it : Addr) (data : o.data = .dict es ep) :
    L2H.TurnH P w K tg (Itk d o kvs) [it] it (fun i h => ∃ o, h.get? it = some o ∧ o.cls = .type "dict_keyiterator" ∧ o.data = .fields #[.ref d, .int i 0, .int kvs.length 0, .int ep 0]) := by
  refine turnH_of (vs := fun i => #[.ref d, .int i 0, .int kvs.length 0, .int ep 0]) (by decide) (fun _ _ _ _ _ st q => wpAny_pyIter_keyiter st q) (fun X e1 e2 e3 i pins s σ H I st go Q E q => ?_) (fun X e1 e2 e3 i pins s σ H x1 I hot apart st stop Q E q => ?_)
  · subst e1 e2 e3
    obtain ⟨lock, lt⟩ := go
    obtain ⟨_, _, _, es', ep', vs, data', _, kv, dict⟩ := I.frzK lock
    obtain ⟨-, rfl⟩ := dict_ep data data'
    have at_i := List.getElem?_eq_getElem lt
    obtain ⟨u, at_u, _⟩ := kv_get kv at_i
    have len : kvs.length = vs.length := Paired.length kv
    refine wpAny_pyNext_dict_item (show s.heap.IsKeyIter it d i vs.length ep' from len ▸ st) dict at_u fun key h' is next same => q key _ h' (relV_key is) ⟨rfl, _, _, at_i, rfl⟩ (len ▸ next) same
  · subst e1 e2 e3
    obtain ⟨lock, past⟩ := stop
    obtain ⟨_, there, _, es', ep', vs, data', size, _, _⟩ := I.frzK lock
    obtain ⟨-, rfl⟩ := dict_ep data data'
    exact keys_end hot st there data' size past apart q
end
/-! ### iter(..) of a list, a tuple, a locked dict -/
section
variable {X : Cx} {tg e : Expr} {te : TE}
/-- a new iterator object, and the turn over it -/
theorem begun {pins : List (Addr × Obj)} {σ : L2.St} {H : Hp} {s : Shared} {R : It → Hp → Prop} {J : It} {tn : Nat → Heap → Prop} {tk : Nat} (I : Inv X pins σ H s) (o : Obj)
    (turn : L2H.TurnH X.prog X.w X.K tg J [s.heap.objs.size] s.heap.objs.size tn) (st : tn 0 (s.heap.push o)) (q : R J H) : L2H.PIEH X pins σ tg R (.ref s.heap.objs.size) { s with heap := s.heap.push o, toks := tk } :=
  ⟨_, _, tn, J, H, rfl, I.kept fun _ _ e => Heap.get?_push_of_some _ e, turn, st, fun b hb => (List.mem_singleton.mp hb) ▸ I.fpOk (Nat.le_refl _) (I.hok.fresh (Nat.le_refl _)), q⟩
theorem pi_listH (he : PE X e te) : L2H.PIH X tg e (iList X.K te) :=
  ⟨fun pins s σ H R I h => thn (he.run pins s σ H _ I h) fun v s1 ⟨x, H1, I1, r, a, ex, ⟨xs, seq⟩, q⟩ => by
    subst ex
    cases r
    obtain ⟨its, _, list, _⟩ := I1.list seq
    exact wpAny_pyIter_list list.isList (begun (tk := s1.toks) I1 _ (turnH_list a _) ⟨_, Heap.get?_push_size _ rfl, rfl, rfl⟩ q)⟩
theorem pi_tupH (he : PE X e te) : L2H.PIH X tg e (iTup X.K te) :=
  ⟨fun pins s σ H R I h => thn (he.run pins s σ H _ I h) fun v s1 ⟨x, H1, I1, r, a, ex, ⟨xs, seq⟩, q⟩ => by
    subst ex
    cases r
    obtain ⟨its, _, tup, _⟩ := I1.tuple seq
    exact wpAny_pyIter_tuple (show s1.heap.IsTuple a its.toArray from tup) (begun (tk := s1.toks) I1 _ (turnH_tuple a _) ⟨_, Heap.get?_push_size _ rfl, rfl, rfl⟩ q)⟩
/-- the keys of a locked dict whose keys are scalars -/
def iKeysK (td : TE) : TI := fun σ H R => td σ H fun x H1 => ∃ d o kvs, x = .ref d ∧ H1 d = some (.frz o (.dK kvs)) ∧ R (Itk d o kvs) H1
theorem pi_keysH (he : PE X e te) : L2H.PIH X tg e (iKeysK te) :=
  ⟨fun pins s σ H R I h => thn (he.run pins s σ H _ I h) fun v s1 ⟨x, H1, I1, r, d, o, kvs, ex, lock, q⟩ => by
    subst ex
    cases r
    obtain ⟨lo, there, plain, es, ep, vs, data, size, _, _⟩ := I1.frzK lock
    exact iter_keys lo there plain data (begun (tk := s1.toks) I1 _ (turnH_keys _ data) ⟨_, Heap.get?_push_size _ rfl, rfl, by rw [size] <;> rfl⟩ q)⟩
end
/-! ### a comprehension's block while an exception is handled -/
/-- the block's context, the handled exception's object kept in sight -/
abbrev blkH (X : Cx) (s : Shared) (H : Hp) (scope : Scope) (ce : Env) (fp : List Addr) : Cx := { X.blk s H scope ce fp with pn := X.pn }
theorem repin {Y : Cx} {pn : List (Addr × Obj)} {σ : L2.St} {H : Hp} {s : Shared} (I : Inv Y [] σ H s) (k : ∀ p ∈ pn, s.heap.get? p.1 = some p.2 ∧ H p.1 = none ∧ p.1 ≠ Y.env.locals ∧ p.1 ∉ Y.fs ∧ ∀ v, p.2.data ≠ .cell v) : Inv { Y with pn := pn } [] σ H s := by
  have ok : Cx.Ok { Y with pn := pn } := by
    cases I.ok
    constructor <;> assumption
  exact ⟨ok, I.os, I.bare, I.base, I.loc, I.cell, I.free, I.freeC, fun p hp => k p (by simpa using hp), I.hok, I.len⟩
section
variable {X : Cx} {pins : List (Addr × Obj)} {σ : L2.St} {H : Hp} {s : Shared}
theorem pin_out (I : Inv X pins σ H s) {p : Addr × Obj} (hp : p ∈ X.pn) : p.1 ∉ frs X.stack := by
  obtain ⟨_, _, n1, n2, _⟩ := I.pin p (List.mem_append_left _ hp)
  rcases I.ok.stk with e | ⟨e, f⟩
  · rw [e]
    exact n2
  · rw [e]
    unfold frs
    rw [List.filterMap_cons, f]
    exact fun z => (List.mem_cons.mp z).elim n1 n2
theorem startH {scope : Scope} {own : List (Str × Nat)} {fp : List Addr} (I : Inv X pins σ H s) (ok : BlkOk X.N X.env.scope scope own) (hN : X.N.Nodup) (hfp : ∀ b ∈ fp, FpOk X pins H b ∧ b < s.heap.objs.size) :
    Inv (blkH X s H scope (compEnvC scope (cellsFrom (s.heap.objs.size + 1) scope.names (cloFrom X.env.cells scope.names [])) s.heap.objs.size X.env) fp) [] (wipe σ (own.map (·.2))) H
      { s with heap := pushCells (s.heap.push { cls := .type "dict", data := .dict #[] }) scope.names } :=
  repin (block_start I ok hN hfp) fun p hp => by
    obtain ⟨there, none_, _, _, data⟩ := I.pin p (List.mem_append_left _ hp)
    exact ⟨pushCells_keeps _ _ _ _ (Heap.get?_push_of_some _ there), none_, Nat.ne_of_lt (Heap.lt_size there), pin_out I hp, data⟩
end
theorem fp_in {Y : Cx} {σ : L2.St} {H : Hp} {s : Shared} {b : Addr} (I : Inv Y [] σ H s) (mem : b ∈ Y.ex) (none_ : H b = none) (apart : ∀ p ∈ Y.pn, p.1 ≠ b) : FpOk Y [] H b :=
  ⟨none_, (I.ok.exf b mem).1, I.ok.exfs b mem, .inl mem, (I.ok.exf b mem).2, fun p hp => apart p (by simpa using hp)⟩
section
variable {X : Cx}
/-- the loop of the block: Y its context, hot; K0 what stands at turn i -/
theorem block_loop {Y : Cx} {elt tg iter : Expr} {ifs : List Expr} {scope : Scope} {pos : Pos} {g : TG} {tt : TT} {te : TE} {J : It} {it D : Addr} {fp : List Addr} {tn : Nat → Heap → Prop} {W : Nat → Nat → Hp → Prop} {σ : L2.St} {vs : List Nat} {H : Hp} {s : Shared} {m0 : Nat} {Qd : Hp → Prop} {R : Result → Shared → Prop}
    (hot : L2H.HotC Y) (ex : Y.ex = fp) (xe : Y.xe = fun _ _ => False) (T : L2H.TurnH Y.prog Y.w Y.K tg J fp it tn) (pg : PG Y tg g) (pt : PTs Y ifs tt) (pe : PE Y elt te) (apart : ∀ b ∈ fp, ∀ p ∈ Y.pn, p.1 ≠ b)
    (I : Inv Y [] (wipe σ vs) H s) (st : tn 0 s.heap) (out : ∀ b ∈ fp, H b = none) (w0 : W 0 m0 H)
    (turn : ∀ i m H, W i m H → (J.stop i H ∧ Qd H) ∨ (J.go i H ∧ ∃ Nx : Hp → Prop, (∀ H', Nx H' → ∃ m', m' < m ∧ W (i + 1) m' H') ∧ ∀ x H', J.yld i H x H' → g x (wipe σ vs) H' fun σ2 H2 => wipe σ2 vs = wipe σ vs ∧ tt σ2 H2 fun b H3 =>
      if b = true then te σ2 H3 fun y H4 => ∃ acc, H4 D = some (.lst acc) ∧ acc.length < sizeLine ∧ Nx (upd H4 D (.lst (acc ++ [y]))) else Nx H3))
    (left : ∀ s' H', Inv Y [] (wipe σ vs) H' s' → Qd H' → R (.ok .next) s') :
    codeAny (model Y.prog Y.w) Y.A (.compLoop (.ListComp elt [⟨tg, iter, ifs, 0⟩] scope pos) 0 (.ref it) (.ref D) Y.env) R s := by
  subst ex
  refine compLoop_any (fun n s' => ∃ i H', Inv Y [] (wipe σ vs) H' s' ∧ tn i s'.heap ∧ (∀ b ∈ Y.ex, H' b = none) ∧ W i n H') ?_ m0 ⟨0, H, I, st, out, w0⟩
  rintro n s1 ⟨i, H1, I1, st1, out1, w1⟩
  have free : ∀ b ∈ Y.ex, FpOk Y [] H1 b := fun b hb => fp_in I1 hb (out1 b hb) (apart b hb)
  rcases turn i n H1 w1 with ⟨stop, done⟩ | ⟨go, Nx, next, step⟩
  · refine thnF (T.done Y rfl rfl rfl hot i [] s1 _ H1 _ I1 free st1 stop) fun r s2 ⟨e, I2⟩ => ?_
    subst e
    exact left s2 H1 I2 done
  refine thnF (T.item Y rfl rfl rfl hot i [] s1 _ H1 _ I1 free st1 go) fun r s2 ⟨u, e, drawn⟩ => ?_
  subst e
  refine thnF drawn fun _ s3 ⟨x, H3, I3, rx, yx, st3, out3⟩ => ?_
  have held := I3.pinned (fun b hb => fp_in I3 hb (out3 b hb) (apart b hb)) (T.obj _ _ st3)
  have given := pg.run _ s3 _ H3 x u _ held rx (step x H3 yx)
  rw [xe] at given
  refine thnF given fun _ s4 ⟨σ4, H4, I4, same, tests⟩ => ?_
  have tested := pt.run _ s4 σ4 H4 _ I4 tests
  rw [xe] at tested
  refine thnF tested fun b s5 ⟨H5, I5, rest⟩ => ?_
  have again : ∀ {s' : Shared} {H' : Hp}, Inv Y ([] ++ pinsAt Y.ex s3.heap) σ4 H' s' → Nx H' → ∃ m, m < n ∧ ∃ i H', Inv Y [] (wipe σ vs) H' s' ∧ tn i s'.heap ∧ (∀ b ∈ Y.ex, H' b = none) ∧ W i m H' := fun {s' H'} I' reached => by
    obtain ⟨m', less, w'⟩ := next H' reached
    have kept : ∀ b ∈ Y.ex, ∀ o, s3.heap.get? b = some o → s'.heap.get? b = some o ∧ H' b = none := fun b hb o e => by
      have z := I'.pin (b, o) (List.mem_append_right _ (List.mem_append_right _ (mem_pinsAt hb e)))
      exact ⟨z.1, z.2.1⟩
    refine ⟨m', less, i + 1, H', (I'.unpinned (pins := [])).weak (by rw [← same, wipe_length]) fun j v e => ?_, T.keep _ _ _ st3 fun b hb o e => (kept b hb o e).1, fun b hb => ?_, w'⟩
    · rw [← same] at e
      exact (wipe_some e).1
    · obtain ⟨o, e, _⟩ := T.obj _ _ st3 b hb
      exact (kept b hb o e).2
  cases b with
  | false => exact again I5 rest
  | true =>
    have made := pe.run _ s5 σ4 H5 _ I5 rest
    rw [xe] at made
    exact thnF made fun z s6 ⟨y, H6, I6, ry, acc, at_D, few, reached⟩ => app_ok (X := Y) I6 at_D few ry fun s7 I7 => again I7 reached
end
section
variable {X : Cx}
/-- a list comprehension where an exception is handled; what is done with the list (use) comes last -/
theorem lc_hot {pins : List (Addr × Obj)} {s : Shared} {σ : L2.St} {H : Hp} {Q : VK} {elt tg iter : Expr} {ifs : List Expr} {scope : Scope} {own : List (Str × Nat)} {pos pos' : Pos} {wi : TI} {g : TG} {tt : TT} {te : TE} {use : Option (Value → Sem Unit)} {Qf : Value → Shared → Prop}
    (hot : L2H.HotC X) (hN : X.N.Nodup) (I : Inv X pins σ H s) (hi : L2H.PIH X tg iter wi) (ok : BlkOk X.N X.env.scope scope own)
    (pg : ∀ s H C cl fp, PG (blkH X s H scope (compEnvC scope cl C X.env) fp) tg g) (pt : ∀ s H C cl fp, PTs (blkH X s H scope (compEnvC scope cl C X.env) fp) ifs tt) (pe : ∀ s H C cl fp, PE (blkH X s H scope (compEnvC scope cl C X.env) fp) elt te)
    (hs : ∀ x, foldedSetIterable iter X.env x = pure x) (h : tLc wi g tt te (own.map (·.2)) σ H Q)
    (then_ : ∀ D C s' m H', Inv X pins σ H' s' → Q (.ref D) H' → s'.heap.Ns C m → FpOk X pins H' C → compPost (model X.prog X.w) X.A X.xe use Qf (.ref D) C (.ok .next) s') :
    wpAny (model X.prog X.w) X.A (comprehension (.ListComp elt [⟨tg, iter, ifs, 0⟩] scope pos) scope X.env pos' (newList []) false (eval iter X.env) use) Qf X.xe s := by
  have cells : ∀ y ∈ scope.names, y.2 = .free → ∃ c, X.env.cells.lookup y.1 = some c := fun y hy e => I.ok.has _ (ok.free y hy e)
  refine wpAny_comprehension_free (use := use) rfl hs (closure_ok cells) ok.kind (fun y hy e => by rw [ok.uniq y hy, e]) (thn (hi.run pins s σ H _ I h) fun _ s1 begun => thn begun fun _ s2 there => ?_)
  obtain ⟨it, fp, tn, J, H2, e, I2, T, st2, free2, q⟩ := there
  subst e
  refine wpAny_newObj_type (newEnv_comp ?_) (Nat.zero_le _)
  obtain ⟨W, ⟨m0, w0⟩, turn⟩ := q s2.heap.objs.size (I2.hok.fresh (Nat.le_refl _))
  have I3 : Inv X pins σ (upd H2 s2.heap.objs.size (.lst [])) { s2 with heap := s2.heap.push { cls := .type "list", data := .seq ([] : List Value).toArray } } :=
    I2.laid (t' := s2.toks) (fun b o e => Heap.get?_push_of_some _ e) (Nat.le_refl _) ⟨Nat.zero_le _, [], 0, .nil, Heap.get?_push_size _ rfl⟩
  have small : ∀ b ∈ fp, b < s2.heap.objs.size := fun b hb => Heap.lt_size (T.obj _ _ st2 b hb).choose_spec.1
  have free3 : ∀ b ∈ fp, FpOk X pins (upd H2 s2.heap.objs.size (.lst [])) b ∧ b < (s2.heap.push { cls := .type "list", data := .seq ([] : List Value).toArray }).objs.size := fun b hb =>
    ⟨⟨by rw [upd_ne (Nat.ne_of_lt (small b hb))]; exact (free2 b hb).1, (free2 b hb).2⟩, by rw [Heap.size_push]; exact Nat.lt_succ_of_lt (small b hb)⟩
  have I4 := startH I3 ok hN free3
  have st4 := T.keep 0 s2.heap (pushCells ((s2.heap.push { cls := .type "list", data := .seq ([] : List Value).toArray }).push { cls := .type "dict", data := .dict #[] }) scope.names) st2 fun b _ o e => pushCells_keeps _ _ _ _ (Heap.get?_push_of_some _ (Heap.get?_push_of_some _ e))
  have back : ∀ s' H', Inv (blkH X { s2 with heap := s2.heap.push { cls := .type "list", data := .seq ([] : List Value).toArray } } (upd H2 s2.heap.objs.size (.lst [])) scope (compEnvC scope (cellsFrom ((s2.heap.push { cls := .type "list", data := .seq ([] : List Value).toArray }).objs.size + 1) scope.names (cloFrom X.env.cells scope.names [])) (s2.heap.push { cls := .type "list", data := .seq ([] : List Value).toArray }).objs.size X.env) fp) [] (wipe σ (own.map (·.2))) H' s' → Q (.ref s2.heap.objs.size) H' → compPost (model X.prog X.w) X.A X.xe use Qf (.ref s2.heap.objs.size) (s2.heap.push { cls := .type "list", data := .seq ([] : List Value).toArray }).objs.size (.ok .next) s' := fun s' H' I6 done => by
    have I7 : Inv X pins σ H' s' := I3.call' (ch := fp) I6.os I6.base I6.hok I6.bare fun b hb => ⟨(free3 b hb).1.2.2.2.1, (free3 b hb).1.2.1, (free3 b hb).1.2.2.2.2.1, (free3 b hb).1.2.2.2.2.2⟩
    obtain ⟨m, names, _⟩ := I6.loc
    exact then_ _ _ s' m H' I7 done names (I3.fpOk (Nat.le_refl _) I6.free)
  have loop := block_loop (σ := σ) (vs := own.map (·.2)) (R := compPost (model X.prog X.w) X.A X.xe use Qf (.ref s2.heap.objs.size) (s2.heap.push { cls := .type "list", data := .seq ([] : List Value).toArray }).objs.size) (scope := scope) (pos := pos) (iter := iter) (Y := blkH X _ _ scope _ fp) hot rfl rfl T (pg _ _ _ _ _) (pt _ _ _ _ _) (pe _ _ _ _ _) (fun b hb p hp => (free3 b hb).1.2.2.2.2.2 p (List.mem_append_left _ hp)) I4 st4 (fun b hb => (free3 b hb).1.1) w0 turn back
  exact codeAny_compStart_list loop (T.self X.A 0 _ _ _ st4 loop)
theorem pe_lcH {elt tg iter : Expr} {ifs : List Expr} {scope : Scope} {own : List (Str × Nat)} {pos : Pos} {wi : TI} {g : TG} {tt : TT} {te : TE} (hot : L2H.HotC X) (hN : X.N.Nodup) (hi : L2H.PIH X tg iter wi) (ok : BlkOk X.N X.env.scope scope own)
    (pg : ∀ s H C cl fp, PG (blkH X s H scope (compEnvC scope cl C X.env) fp) tg g) (pt : ∀ s H C cl fp, PTs (blkH X s H scope (compEnvC scope cl C X.env) fp) ifs tt) (pe : ∀ s H C cl fp, PE (blkH X s H scope (compEnvC scope cl C X.env) fp) elt te)
    (hs : ∀ x, foldedSetIterable iter X.env x = pure x := by intro _; rfl) : PE X (.ListComp elt [⟨tg, iter, ifs, 0⟩] scope pos) (tLc wi g tt te (own.map (·.2))) :=
  ⟨fun pins s σ H Q I h => by
    rw [eval_ListComp]
    exact lc_hot hot hN I hi ok pg pt pe hs h fun D C s' m H' I' q names f => ⟨m, names, fun h'' same => ⟨.ref D, H', I'.turned (t' := s'.toks) (fun b o nb e => (same.2 b nb).trans e) f.1 f.2.1 f.2.2.2.1 f.2.2.2.2.1 f.2.2.2.2.2, rfl, q⟩⟩⟩
end
section
variable {X : Cx}
/-- name = [..] on one line where an exception is handled, the name a local -/
theorem ps_setLcH {i : Nat} {y : Str} {py : Pos} {elt tg iter : Expr} {ifs : List Expr} {scope : Scope} {own : List (Str × Nat)} {pos spos : Pos} {wi : TI} {g : TG} {tt : TT} {te : TE} (hot : L2H.HotC X) (hN : X.N.Nodup) (at_i : X.N[i]? = some y) (local_ : X.env.scope.names.lookup y = some .local)
    (swaps : swapsWith (.ListComp elt [⟨tg, iter, ifs, 0⟩] scope pos) (some (.Name y py)) spos.line X.env = pure true) (hi : L2H.PIH X tg iter wi) (ok : BlkOk X.N X.env.scope scope own)
    (pg : ∀ s H C cl fp, PG (blkH X s H scope (compEnvC scope cl C X.env) fp) tg g) (pt : ∀ s H C cl fp, PTs (blkH X s H scope (compEnvC scope cl C X.env) fp) ifs tt) (pe : ∀ s H C cl fp, PE (blkH X s H scope (compEnvC scope cl C X.env) fp) elt te)
    (hs : ∀ x, foldedSetIterable iter X.env x = pure x := by intro _; rfl) : PS X (.Assign [.Name y py] (.ListComp elt [⟨tg, iter, ifs, 0⟩] scope pos) spos) (tAsg (tLc wi g tt te (own.map (·.2))) (gName i)) :=
  ⟨fun pins s σ H D I h => by
    rw [exec_Assign_Name_used _ _ _ _ swaps]
    have stored := lc_hot (pos := pos) (pos' := firstIterPos [⟨tg, iter, ifs, 0⟩] pos) (use := some (assign (.Name y py) X.env)) (Qf := fun _ s' => SP X pins D .next s') hot hN I hi ok pg pt pe hs (show tLc wi g tt te (own.map (·.2)) σ H (fun x H1 => gName i x σ H1 D.nx) from h) fun L C s' m H' I' q names f => by
      refine wpAny_assign_Name (store_ok2 (v := V.ref L) I' hN at_i (.inl local_) rfl (fun s2 I2 ⟨a, same, where_⟩ => ?_) (.inr local_))
      have apart : C ≠ a := where_.elim (fun z => by rw [z]; exact f.2.1) fun z e => f.2.2.2.2.1 y a z e.symm
      exact ⟨m, names.sameBut same apart, fun h3 same3 => ⟨_, H', I2.turned (t' := s2.toks) (fun b o nb e => (same3.2 b nb).trans e) f.1 f.2.1 f.2.2.2.1 f.2.2.2.2.1 f.2.2.2.2.2, q⟩⟩
    exact wpAny_bind (wpAny_standAt (wpAny_bind (wpAny_bind (thn stored fun _ s' done => wpAny_pure (wpAny_pure done)))))⟩
end
/-! ### a, b = a tuple, where an exception is handled -/
theorem unpack_hot {prog : Program} {w : World} {A : Around} {E : Value → Shared → Prop} {s : Shared} {x1 t : Addr} {items : Array Value} {targets : List (Bool × (Value → Sem Unit))} {Q : Unit → Shared → Prop} (hot : HotX.HotAt A x1 s.heap) (tup : s.heap.IsTuple t items)
    (many : targets.length = items.size) (plain : targets.findIdx? (·.1) = none) (q : ∀ h', Heap.ExtBut s.heap.objs.size s.heap h' → wpAny (model prog w) A (assignInOrder (targets.map (·.2)) items.toList) Q E { s with heap := h' }) :
    wpAny (model prog w) A (unpack (.ref t) targets) Q E s := by
  obtain ⟨hh, o1, vs1, g1, d1, c1⟩ := hot
  have apart : t ≠ s.heap.objs.size := Nat.ne_of_lt (Heap.lt_size tup.choose_spec.1)
  have apart1 : x1 ≠ s.heap.objs.size := Nat.ne_of_lt (Heap.lt_size g1)
  have whole : List.take items.size (List.drop 0 items.toList) = items.toList := List.take_of_length_le (by simp)
  unfold unpack unpackItems notIterableAtAll
  rw [many, plain]
  refine wpAny_bind (wpAny_holding (wpAny_bind (wpAny_bind (wpAny_specialOf tup.typeIs F.slot_tuple_iter.lookup (wpAny_pure ?_)))))
  simp only [Bool.false_eq_true, if_false]
  refine wpAny_bind (wpAny_holding (wpAny_pyIter_tuple tup (wpAny_bind (wpAny_holding (wpAny_draw_tuple apart items.size 0 _ _ ⟨_, Heap.get?_push_size _ rfl, rfl, rfl⟩ (tup.push _) (by omega) fun h1 it1 same => ?_)))))
  rw [whole, if_neg (by simp)]
  have g1' : h1.get? x1 = some o1 := same.extBut _ _ apart1 (Heap.get?_push_of_some _ g1)
  refine wpAny_bind (wpAny_holding (tuple_end (s := { s with heap := h1 }) ⟨hh, o1, vs1, g1', d1, c1⟩ it1 ((tup.push _).extBut same.extBut apart) (by simp) apart1 fun h2 ext => ?_))
  exact wpAny_pure (q h2 fun b o n e => ext b o n (same.extBut b o n (Heap.get?_push_of_some _ e)))
section
variable {X : Cx}
theorem pg_tupH {es : List Expr} {k : Nat} {pos : Pos} {t : TGs} {n : Nat} (hot : L2H.HotC X) (h : PGs X es t) (many : (assignEach es X.env).length = n := by rfl) (plain : (assignEach es X.env).findIdx? (·.1) = none := by rfl) : PG X (.Tuple es k pos) (gTup X.K n t) :=
  ⟨fun pins s σ H v u Q I r given => by
    obtain ⟨a, xs, ev, seq, len, q⟩ := given
    subst ev
    cases r
    obtain ⟨its, rel, tup, _⟩ := I.tuple seq
    obtain ⟨x1, at_⟩ := hot.at I
    rw [arm_assign_Tuple]
    refine wpAny_bind (wpAny_standAt (unpack_hot at_ (show s.heap.IsTuple a its.toArray from tup) (by simp [many, ← len, rel.length]) plain fun h' ext => ?_))
    have I1 : Inv X pins σ H { s with heap := h' } := I.kept (t' := s.toks) fun b o e => ext b o (Nat.ne_of_lt (Heap.lt_size e)) e
    exact h.run pins _ σ H xs _ Q I1 (by simpa using rel) q⟩
end
/-! ### draws of a list where an exception is handled (for zip) -/
section
variable {prog : Program} {w : World} {A : Around} {E : Value → Shared → Prop} {s : Shared} {x1 it l : Addr} {i : Nat} {items : Array Value}
theorem list_draw_end {Q : Value → Shared → Prop} (hot : HotX.HotAt A x1 s.heap) (I : s.heap.IsListIter it l i) (L : s.heap.IsList l items) (past : items[i]? = none) (apart : x1 ≠ it)
    (q : ∀ h' e, Heap.ExtBut it s.heap h' → (∃ o, h'.get? e = some o ∧ o.cls = .type "StopIteration") → E (.ref e) { s with heap := h' }) : wpAny (model prog w) A (Builtin.SmallTypes.nextOf (.ref it)) Q E s := by
  have T := I.typeIs
  obtain ⟨oi, gi, ci, di⟩ := I
  obtain ⟨ol, gl, cl, nl, dl⟩ := L
  obtain ⟨hh, o1, vs1, g1, d1, c1⟩ := hot
  have ne : (Value.ref l == Value.none) = false := rfl
  refine wpAny_bind (wpAny_callSpecial?_slot T slot_listiter_next (wpAny_call_entry slot_listiter_next T entry_listiter_next ?_ (args_listiter_next _)))
  wp_walk
  repeat first
    | (rw [di]; wp_walk)
    | (rw [dl]; wp_walk)
    | (simp only [ne, Bool.false_eq_true, if_false, Int.toNat_natCast, past]; wp_walk)
  have old : ∀ {c : Addr} {o : Obj}, (s.heap.update it (Obj.mapFields fun x => x.setIfInBounds 0 Value.none)).get? c = some o → ((s.heap.update it (Obj.mapFields fun x => x.setIfInBounds 0 Value.none)).push { cls := .type "tuple", data := .seq #[] }).get? c = some o := fun e => Heap.get?_push_of_some _ e
  have g1' := old ((Heap.get?_update_other s.heap (Obj.mapFields fun x => x.setIfInBounds 0 Value.none) apart.symm).trans g1)
  refine HotX.raiseNew_hot ⟨hh, o1, vs1, Heap.get?_push_of_some _ g1', d1, c1⟩ (Nat.ne_of_lt (Heap.lt_size g1')) (Heap.get?_push_size _ rfl) rfl (by simp; omega) (q _ _ (fun c o n e => ?_) ⟨_, Heap.get?_update_self _ (Heap.get?_push_size _ rfl) rfl, rfl⟩)
  have e' := old ((Heap.get?_update_other s.heap (Obj.mapFields fun x => x.setIfInBounds 0 Value.none) n.symm).trans e)
  exact (Heap.get?_update_other _ _ (Nat.ne_of_gt (Heap.lt_size e'))).trans (Heap.get?_push_of_some _ e')
/-- the handled exception's object as it stands -/
def Clear (x1 : Addr) (h : Heap) : Prop := ∃ (o : Obj) (vs : Array Value), h.get? x1 = some o ∧ o.data = .fields vs ∧ vs[2]? = some .none
theorem draws_listH (hh : A.handled = some (.ref x1)) (n1 : l ≠ it) (n2 : x1 ≠ it) :
    Draws prog w A it [it, l, x1] items.size (fun i v => items[i]? = some v) (fun i h => h.IsListIter it l i ∧ h.IsList l items ∧ Clear x1 h) := by
  refine ⟨fun i h st => ⟨_, st.1.choose_spec.1⟩, fun i h h' st k => ?_, fun i s Q E lt st q => ?_, fun s Q E st q => ?_⟩
  · simp only [List.forall_mem_cons] at k
    obtain ⟨o, vs, g, r⟩ := st.2.2
    exact ⟨st.1.at k.1, st.2.1.at k.2.1, o, vs, k.2.2.1 o g, r⟩
  · refine wpAny_nextOf_list_item st.1 st.2.1 (x := items[i]) (by simp [lt]) fun h' next same => q _ h' s.toks (by simp [lt]) ⟨next, st.2.1.extBut same.extBut n1, ?_⟩ same
    obtain ⟨o, vs, g, r⟩ := st.2.2
    exact ⟨o, vs, same.extBut _ _ n2 g, r⟩
  · exact list_draw_end ⟨hh, st.2.2⟩ st.1 st.2.1 (by simp) n2 q
end
/-! ### zip of two lists where an exception is handled -/
/-- what a turn of pairs wants of a state in which the iterator z stands at i: a walk there, whose values are told by J -/
def PairsAt (X : Cx) (H : Hp) (s : Shared) (J : It) (z : Addr) (wr : List Addr) (tn : Nat → Heap → Prop) (i : Nat) : Prop :=
  ∃ (n : Nat) (Pt : Nat → Array Value → Prop) (St : Nat → Heap → Prop) (Mid : Nat → Addr → Heap → Prop) (fp : List Addr), WalksT X.prog X.w X.A z fp wr n Pt St Mid ∧ St i s.heap ∧ (∀ j h, St j h → tn j h) ∧ (J.stop i H → i = n) ∧
    (J.go i H → i < n ∧ ∀ vals, Pt i vals → ∃ xs, Vals xs vals.toList ∧ xs.length = 2 ∧ ∀ T, H T = none → J.yld i H (.ref T) (upd H T (.tup xs)))
theorem turnH_pairs {P : Program} {w : World} {K : PySem.W.Frag} {elts : List Expr} {kk : Nat} {tpos : Pos} {J : It} {z : Addr} {fp wr : List Addr} {tn : Nat → Heap → Prop}
    (mem : z ∈ fp) (sub : ∀ c ∈ wr, c ∈ fp) (obj : ∀ i h, tn i h → ∀ b ∈ fp, ∃ o, h.get? b = some o ∧ ∀ v, o.data ≠ .cell v) (keep : ∀ i h h', tn i h → (∀ b ∈ fp, ∀ o, h.get? b = some o → h'.get? b = some o) → tn i h')
    (self : ∀ (A : Around) (i : Nat) (s : Shared) (Q : Value → Shared → Prop) (E : Value → Shared → Prop), tn i s.heap → Q (.ref z) s → wpAny (model P w) A (pyIter (.ref z)) Q E s)
    (src : ∀ X : Cx, X.prog = P → X.w = w → X.K = K → L2H.HotC X → ∀ i pins s σ H, Inv X pins σ H s → (∀ b ∈ fp, FpOk X pins H b) → tn i s.heap → (J.go i H ∨ J.stop i H) → PairsAt X H s J z wr tn i) : L2H.TurnH P w K (.Tuple elts kk tpos) J fp z tn := by
  refine ⟨mem, obj, keep, fun X e1 e2 e3 hot i pins s σ H E I free st go => ?_, fun X e1 e2 e3 hot i pins s σ H E I free st stop => ?_, self⟩
  · obtain ⟨n, Pt, St, Mid, fpW, W, here, back, _, told⟩ := src X e1 e2 e3 hot i pins s σ H I free st (.inl go)
    obtain ⟨lt, told⟩ := told go
    subst e1 e2
    have old : ∀ c ∈ fp, c < s.heap.objs.size := fun c hc => Heap.lt_size (obj i _ st c hc).choose_spec.1
    refine W.item i s _ _ lt here fun T vals h1 tk pt new tup mid kept => ⟨_, rfl, W.go elts kk tpos i T _ _ _ mid fun h2 st2 kept2 => ?_⟩
    obtain ⟨xs, rel, two, yields⟩ := told vals pt
    have none_T := I.hok.fresh new
    obtain ⟨o, at_T, r⟩ := tup
    have ob : ObjOk X.prog X.w (upd H T (.tup xs)) h2 T (.tup xs) := ⟨by rw [two]; decide, vals.toList, rel, o, kept2 T o (W.apart i T _ mid) at_T, r⟩
    refine ⟨.ref T, _, I.turnedNew (t' := tk) (ch := wr) (fun b o nb e => kept2 b o nb (kept b o nb e)) (fun b hb => free b (sub b hb)) new ob, rfl, yields T none_T, back _ _ st2, fun b hb => ?_⟩
    rw [upd_ne (Nat.ne_of_lt (Nat.lt_of_lt_of_le (old b hb) new))]
    exact (free b hb).1
  · obtain ⟨n, Pt, St, Mid, fpW, W, here, _, ends, _⟩ := src X e1 e2 e3 hot i pins s σ H I free st (.inr stop)
    subst e1 e2
    have e := ends stop
    subst e
    exact W.done s _ _ here fun h' tk kept => ⟨rfl, I.turnedL (t' := tk) (ch := wr) kept fun b hb => free b (sub b hb)⟩
/-- the lists at a and b side by side, in new pairs, to the end of the shorter -/
def ItzL (K : PySem.W.Frag) (a b : Addr) : It :=
  ⟨fun i H => ∃ xs ys : List V, SqL K H a xs ∧ SqL K H b ys ∧ i < min xs.length ys.length,
    fun i H v H' => ∃ T x y, v = .ref T ∧ H T = none ∧ H' = upd H T (.tup [x, y]) ∧ (∀ xs, SqL K H a xs → xs[i]? = some x) ∧ ∀ ys, SqL K H b ys → ys[i]? = some y,
    fun i H => ∃ xs ys : List V, SqL K H a xs ∧ SqL K H b ys ∧ i = min xs.length ys.length⟩
/-- how the iterator stands at turn i -/
structure ZAt (z TI TO i1 i2 a b : Addr) (i : Nat) (h : Heap) : Prop where
  zip : IsZip h z TI TO .none
  its : IsTupOf2 h TI (.ref i1) (.ref i2)
  out : ∃ x y, IsTupOf2 h TO x y
  left : h.IsListIter i1 a i
  right : h.IsListIter i2 b i
theorem turnH_zip {P : Program} {w : World} {K : PySem.W.Frag} {elts : List Expr} {kk : Nat} {tpos : Pos} {a b z TI TO i1 i2 : Addr} (S : ZipSep2 z TI TO i1 i2 [i1, a] [i2, b]) (n1 : a ≠ i1) (n2 : b ≠ i2) :
    L2H.TurnH P w K (.Tuple elts kk tpos) (ItzL K a b) [z, TI, TO, i1, i2] z (ZAt z TI TO i1 i2 a b) := by
  refine turnH_pairs (wr := [z, TO, i1, i2]) (by simp) (by simp) (fun i h st c hc => ?_) (fun i h h' st k => ?_) (fun _ _ _ _ _ st q => wpAny_pyIter_zip st.zip q) (fun X e1 e2 e3 hot i pins s σ H I free st either => ?_)
  · have cell : ∀ {c : Addr} {u : Obj}, h.get? c = some u → (∀ v, u.data ≠ .cell v) → ∃ o, h.get? c = some o ∧ ∀ v, o.data ≠ .cell v := fun e n => ⟨_, e, n⟩
    obtain ⟨_, _, out⟩ := st.out
    obtain ⟨_, g1, _, k1⟩ := st.left
    obtain ⟨_, g2, _, k2⟩ := st.right
    simp only [List.mem_cons, List.not_mem_nil, or_false] at hc
    rcases hc with rfl | rfl | rfl | rfl | rfl
    · exact cell st.zip nofun
    · exact cell st.its nofun
    · exact cell out nofun
    · exact cell g1 (by rw [k1]; exact nofun)
    · exact cell g2 (by rw [k2]; exact nofun)
  · obtain ⟨x, y, out⟩ := st.out
    simp only [List.forall_mem_cons] at k
    exact ⟨k.1 _ st.zip, k.2.1 _ st.its, ⟨x, y, k.2.2.1 _ out⟩, st.left.at k.2.2.2.1, st.right.at k.2.2.2.2.1⟩
  · subst e1 e2 e3
    obtain ⟨xs, ys, seq1, seq2⟩ : ∃ xs ys : List V, SqL X.K H a xs ∧ SqL X.K H b ys := by
      rcases either with ⟨xs, ys, h1, h2, _⟩ | ⟨xs, ys, h1, h2, _⟩
      · exact ⟨xs, ys, h1, h2⟩
      · exact ⟨xs, ys, h1, h2⟩
    obtain ⟨its1, rel1, list1, _⟩ := I.list seq1
    obtain ⟨its2, rel2, list2, _⟩ := I.list seq2
    have len1 := rel1.length
    have len2 := rel2.length
    obtain ⟨p, ⟨hh, vs, data, none_⟩, mem⟩ := hot
    have both := List.mem_append_left pins mem
    have far : ∀ c ∈ [z, TI, TO, i1, i2], p.1 ≠ c := fun c hc => (free c hc).2.2.2.2.2 p both
    simp only [List.forall_mem_cons] at far
    have clear : Clear p.1 s.heap := ⟨p.2, vs, (I.pin p both).1, data, none_⟩
    have S' : ZipSep2 z TI TO i1 i2 [i1, a, p.1] [i2, b, p.1] := by
      have add : ∀ {c d e : Addr}, c ∉ [d, e] → p.1 ≠ c → c ∉ [d, e, p.1] := fun h n m => by
        simp only [List.mem_cons, List.not_mem_nil, or_false, not_or] at h m
        rcases m with m | m | m
        · exact h.1 m
        · exact h.2 m
        · exact n m.symm
      exact ⟨S.TIz, S.TOz, S.TITO, S.TIi1, List.mem_cons_self, add S.zf1 far.1, add S.Tf1 far.2.2.1, S.TIi2, List.mem_cons_self, add S.zf2 far.1, add S.Tf2 far.2.2.1, add S.sep1_2 far.2.2.2.1, add S.sep2_1 far.2.2.2.2.1⟩
    obtain ⟨x, y, out⟩ := st.out
    have few : min its1.toArray.size its2.toArray.size = min xs.length ys.length := by
      rw [List.size_toArray, List.size_toArray, len1, len2]
    have hh' : X.A.in1.handled = some (.ref p.1) := hh
    refine ⟨_, _, _, _, _, WalksT.zipD2 S' (draws_listH (items := its1.toArray) hh' n1 far.2.2.2.1) (draws_listH (items := its2.toArray) hh' n2 far.2.2.2.2.1), ⟨st.zip, st.its, ⟨x, y, out⟩, ⟨st.left, list1.isList, clear⟩, ⟨st.right, list2.isList, clear⟩⟩, fun j h q => ⟨q.1, q.2.1, q.2.2.1, q.2.2.2.1.1, q.2.2.2.2.1⟩, fun q => ?_, fun q => ⟨?_, fun vals pt => ?_⟩⟩
    · obtain ⟨xs', ys', s1, s2, e⟩ := q
      rw [I.list_inj s1 seq1, I.list_inj s2 seq2] at e
      rw [few, e]
    · obtain ⟨xs', ys', s1, s2, lt⟩ := q
      rw [I.list_inj s1 seq1, I.list_inj s2 seq2] at lt
      rw [few]
      exact lt
    · obtain ⟨xs', ys', s1, s2, lt⟩ := q
      rw [I.list_inj s1 seq1, I.list_inj s2 seq2] at lt
      obtain ⟨u1, u2, at_1, at_2, rfl⟩ := pt
      have at_x : xs[i]? = some (xs[i]'(by omega)) := List.getElem?_eq_getElem _
      have at_y : ys[i]? = some (ys[i]'(by omega)) := List.getElem?_eq_getElem _
      obtain ⟨v1, at_v1, r1⟩ := rel1.get at_x
      obtain ⟨v2, at_v2, r2⟩ := rel2.get at_y
      have e1 : v1 = u1 := Option.some.inj (by rw [← at_v1, ← at_1]; simp)
      have e2 : v2 = u2 := Option.some.inj (by rw [← at_v2, ← at_2]; simp)
      subst e1 e2
      exact ⟨_, .cons r1 (.cons r2 .nil), rfl, fun T none_T => ⟨T, _, _, rfl, none_T, rfl, fun zs q => by rw [I.list_inj q seq1]; exact at_x, fun zs q => by rw [I.list_inj q seq2]; exact at_y⟩⟩
def iZipL (K : PySem.W.Frag) (ta : TA) : TI := fun σ H R => ta σ H fun vs H1 => ∃ a b xs ys, vs = [.ref a, .ref b] ∧ SqL K H1 a xs ∧ SqL K H1 b ys ∧ R (ItzL K a b) H1
/-- a built-in class called with two values -/
theorem call_two {X : Cx} {T : String} {n : Str} {e e2 : Expr} {ta : TA} {p pos : Pos} {pins : List (Addr × Obj)} {σ : L2.St} {H : Hp} {s : Shared} {Q : List V → Hp → Prop} {R : Value → Shared → Prop} (hg : Gl X n) (hm : X.mg n = none) (hv : bootBuiltins n = some (.type T)) (ha : PA X [e, e2] ta) (I : Inv X pins σ H s) (h : ta σ H Q)
    (k : ∀ us vs s1 H1, Inv X pins σ H1 s1 → Vals vs us → Q vs H1 → wpAny (model X.prog X.w) X.A (call (.type T) us) R X.xe s1) (n1 : n ≠ "__name__") (n2 : (n == ("__debug__" : Str)) = false)
    (hs : starEach [e, e2] X.env = (false, eval e X.env) :: starEach [e2] X.env) (hpl : (backTo pos (starEach [e2] X.env)).any (·.1) = false) : wpAny (model X.prog X.w) X.A (eval (.Call (.Name n p) [e, e2] [] pos) X.env) R X.xe s := by
  have args := ha.run pos pins s σ H Q I h
  have made := thn args fun us s1 (r : ∃ vs H1, Inv X pins σ H1 s1 ∧ Vals vs us ∧ Q vs H1) => r.elim fun vs ⟨H1, I1, r1, q1⟩ => k us vs s1 H1 I1 r1 q1
  exact Call_ (ld_blt I hg hm hv (callWith_type1 made hs hpl) n1 n2)
theorem pi_zipH {X : Cx} {e e2 : Expr} {ta : TA} {p pos tpos : Pos} {elts : List Expr} {kk : Nat} (hg : Gl X "zip") (hm : X.mg "zip" = none) (ha : PA X [e, e2] ta)
    (hs : starEach [e, e2] X.env = (false, eval e X.env) :: starEach [e2] X.env := by rfl)
    (hpl : (backTo pos (starEach [e2] X.env)).any (·.1) = false := by rfl) :
    L2H.PIH X (.Tuple elts kk tpos) (.Call (.Name "zip" p) [e, e2] [] pos) (iZipL X.K ta) := ⟨fun pins s σ H R I h => call_two hg hm PyProof.Rows.boot_zip ha I h (fun us vs s1 H1 I1 rel ⟨a, b, xs, ys, ev, seq1, seq2, q⟩ => by
  subst ev
  obtain ⟨u1, us, rfl, r1, rel⟩ : ∃ u1 r, us = u1 :: r ∧ RelV (.ref a) u1 ∧ Vals [.ref b] r := by cases rel with | cons a b => exact ⟨_, _, rfl, a, b⟩
  obtain ⟨u2, rfl, r2⟩ := rel.one
  cases r1
  cases r2
  obtain ⟨its1, _, list1, _⟩ := I1.list seq1
  obtain ⟨its2, _, list2, _⟩ := I1.list seq2
  have la : a < s1.heap.objs.size := list1.lt
  have lb : b < s1.heap.objs.size := list2.lt
  refine zip_begins2 (begins_list a its1.toArray) (begins_list b its2.toArray) list1.isList list2.isList fun h' zip its' out g1 g2 _ kept => wpAny_pyIter_zip zip ?_
  have new : ∀ c ∈ [s1.heap.objs.size + 4, s1.heap.objs.size + 2, s1.heap.objs.size + 3, s1.heap.objs.size, s1.heap.objs.size + 1], s1.heap.objs.size ≤ c := by
    simp only [List.forall_mem_cons, List.not_mem_nil, false_imp_iff, implies_true, and_true]
    exact ⟨Nat.le_add_right .., Nat.le_add_right .., Nat.le_add_right .., Nat.le_refl _, Nat.le_add_right ..⟩
  exact ⟨_, _, _, _, H1, rfl, I1.kept (t' := s1.toks) kept, turnH_zip (zip_sep2 (fp1 := [a]) (fp2 := [b]) (by simpa using la) (by simpa using lb)) (Nat.ne_of_lt la) (Nat.ne_of_lt (Nat.lt_succ_of_lt lb)), ⟨zip, its', ⟨_, _, out⟩, ⟨_, g1, rfl, rfl⟩, ⟨_, g2, rfl, rfl⟩⟩, fun c hc => I1.fpOk (new c hc) (I1.hok.fresh (new c hc)), q⟩) (by decide) (by decide) hs hpl⟩
theorem walk_zipL {K : PySem.W.Frag} {a b : Addr} {xs ys : List V} : Walk (ItzL K a b) (min xs.length ys.length) (fun H => SqL K H a xs ∧ SqL K H b ys) (YPair (fun i => xs[i]?) (fun i => ys[i]?)) := by
  refine ⟨fun i H lt q => ⟨xs, ys, q.1, q.2, lt⟩, fun H q => ⟨xs, ys, q.1, q.2, rfl⟩, fun i H v H' lt q y => ?_⟩
  obtain ⟨T, x, y, e, none_T, made, at_x, at_y⟩ := y
  exact ⟨T, x, y, e, none_T, made, at_x xs q.1, at_y ys q.2⟩
/-! ### the library's walks (what any, all, sum, min, max, list, set ask) where an exception is handled -/
section
variable {prog : Program} {w : World} {A : Around} {x1 I l : Addr} {items : Array Value}
theorem walks_listH (hh : A.handled = some (.ref x1)) (n1 : l ≠ I) (n2 : x1 ≠ I) :
    Walks prog w A I [I, l, x1] [I] items.size (fun i v => items[i]? = some v) (fun i h => h.IsListIter I l i ∧ h.IsList l items ∧ Clear x1 h) := by
  refine ⟨fun b hb => List.mem_singleton.mp hb ▸ List.mem_cons_self, fun i h h' st k => ?_, fun i s Q E lt st q => ?_, fun s Q E st q => ?_, fun i s Q E st q => wpAny_pyIter_listiter st.1 q⟩
  · simp only [List.forall_mem_cons] at k
    obtain ⟨o, vs, g, r⟩ := st.2.2
    exact ⟨st.1.at k.1, st.2.1.at k.2.1, o, vs, k.2.2.1 o g, r⟩
  · refine wpAny_pyNext_list_item st.1 st.2.1 (x := items[i]) (by simp [lt]) fun h' next same => q _ h' s.toks (by simp [lt]) ⟨next, st.2.1.extBut same.extBut n1, ?_⟩ fun b o nb e => same.extBut b o (fun z => nb (z ▸ List.mem_singleton_self _)) e
    obtain ⟨o, vs, g, r⟩ := st.2.2
    exact ⟨o, vs, same.extBut _ _ n2 g, r⟩
  · exact list_end ⟨hh, st.2.2⟩ st.1 st.2.1 (by simp) n2 fun h' ext => q h' s.toks fun b o nb e => ext b o (fun z => nb (z ▸ List.mem_singleton_self _)) e
theorem walks_tupleH (hh : A.handled = some (.ref x1)) (n1 : l ≠ I) (n2 : x1 ≠ I) :
    Walks prog w A I [I, l, x1] [I] items.size (fun i v => items[i]? = some v) (fun i h => h.IsTupleIter I l i ∧ h.IsTuple l items ∧ Clear x1 h) := by
  refine ⟨fun b hb => List.mem_singleton.mp hb ▸ List.mem_cons_self, fun i h h' st k => ?_, fun i s Q E lt st q => ?_, fun s Q E st q => ?_, fun i s Q E st q => wpAny_pyIter_tupleiter st.1 q⟩
  · simp only [List.forall_mem_cons] at k
    obtain ⟨o, vs, g, r⟩ := st.2.2
    exact ⟨st.1.at k.1, st.2.1.at k.2.1, o, vs, k.2.2.1 o g, r⟩
  · refine wpAny_pyNext_tuple_item st.1 st.2.1 (x := items[i]) (by simp [lt]) fun h' next same => q _ h' s.toks (by simp [lt]) ⟨next, st.2.1.extBut same.extBut n1, ?_⟩ fun b o nb e => same.extBut b o (fun z => nb (z ▸ List.mem_singleton_self _)) e
    obtain ⟨o, vs, g, r⟩ := st.2.2
    exact ⟨o, vs, same.extBut _ _ n2 g, r⟩
  · exact tuple_end ⟨hh, st.2.2⟩ st.1 st.2.1 (by simp) n2 fun h' ext => q h' s.toks fun b o nb e => ext b o (fun z => nb (z ▸ List.mem_singleton_self _)) e
end
section
variable {X : Cx}
/-- all(bools) -/
theorem cr_allH (hot : L2H.HotC X) : CallR X (.builtin "all") (rAll X.K) := fun pins s σ H vs us Q I r h => by
  obtain ⟨a, bs, rfl, seq, q⟩ := h
  obtain ⟨its, rel, list, _⟩ := I.list seq
  rw [Vals.ref1 r]
  have bools := rel.bls
  obtain ⟨x1, hh, clear⟩ := hot.at I
  refine call_all_walk (iter_any list.isList fun s2 e st apart => ?_)
  subst e
  obtain ⟨o, vs, g, rest⟩ := clear
  refine ⟨_, _, _, _, _, _, _, rfl, walks_listH (A := X.A.in1) (l := a) (items := its.toArray) hh apart (Nat.ne_of_lt (Heap.lt_size g)), ⟨st.1, st.2, o, vs, Heap.get?_push_of_some _ g, rest⟩, truth_bools bools, fun h' tk kept => ?_⟩
  refine ⟨.bl _, H, I.kept fun b o eo => kept b o (fun mem => absurd (Heap.lt_size eo) (by rw [List.mem_singleton.mp mem]; exact Nat.lt_irrefl _)) (Heap.get?_push_of_some _ eo), ?_, q⟩
  show Value.bool _ = Value.bool _
  rw [← L2.all_range, bools, List.size_toArray, List.length_map]
theorem cr_anyH (hot : L2H.HotC X) : CallR X (.builtin "any") (rAny X.K) := fun pins s σ H vs us Q I r h => by
  obtain ⟨a, bs, rfl, seq, q⟩ := h
  obtain ⟨its, rel, list, _⟩ := I.list seq
  rw [Vals.ref1 r]
  have bools := rel.bls
  obtain ⟨x1, hh, clear⟩ := hot.at I
  refine call_any_walk (iter_any list.isList fun s2 e st apart => ?_)
  subst e
  obtain ⟨o, vs, g, rest⟩ := clear
  refine ⟨_, _, _, _, _, _, _, rfl, walks_listH (A := X.A.in1) (l := a) (items := its.toArray) hh apart (Nat.ne_of_lt (Heap.lt_size g)), ⟨st.1, st.2, o, vs, Heap.get?_push_of_some _ g, rest⟩, truth_bools bools, fun h' tk kept => ?_⟩
  refine ⟨.bl _, H, I.kept fun b o eo => kept b o (fun mem => absurd (Heap.lt_size eo) (by rw [List.mem_singleton.mp mem]; exact Nat.lt_irrefl _)) (Heap.get?_push_of_some _ eo), ?_, q⟩
  show Value.bool _ = Value.bool _
  rw [← L2.any_range, bools, List.size_toArray, List.length_map]
end
/-! ### a def that is called where an exception is handled -/
theorem okH {P : Program} {w : World} {K : PySem.W.Frag} {mg : Str → Option Value} {base : Heap} {CX : CXT} {k : Nat} {f : Addr} {fd : FuncData} {N ps : List Str} {sp : Sp} {x qual : Str} {params : Arguments} {body : List Stmt} {scope : Scope} {dvs : List V} {kws : List (Str × V)}
    (F : FunD K x qual params body scope dvs kws f fd) (S : FnScope N ps scope) (count : ∀ vs H Q E, sp vs H Q E → vs.length = ps.length)
    (inner : ∀ (cdv : Value) (A : Around) (outer : List Env) (s : Shared) (H : Hp) (vs : List V) (Q : VK) (E : XK) (p : Addr × Obj), L2H.Hot1 A p → L2H.RoomH k (A.deeper (envOfC qual scope s.heap.objs.size f cdv)) → sp vs H Q E →
      ∃ t, PSs (L2H.cxH CX P w K mg base N qual scope f cdv A outer s H E p) body t ∧ t { nx := fun _ H' => Q .non H', rt := Q } (L2.start N vs) H) : L2H.FnH P w K mg base CX (k + 1) f fd ps sp := by
  obtain ⟨oc, od, dV, kV, doc, pm, an, cdv, ct, osl, rfl, place, code, _, _⟩ := F.ex
  exact L2H.fn_ofH place code S count (inner cdv)
/-! ### in one word -/
theorem hotC {X : Cx} {p : Addr × Obj} (h : L2H.Hot1 X.A p) (mem : p ∈ X.pn) : L2H.HotC X := ⟨p, h, mem⟩
theorem unitsH {k : Nat} {A : Around} (r : L2H.RoomH k A) : A.units + 64 < cLine := by
  have := r.un
  omega
theorem un65H {k : Nat} {A : Around} (r : L2H.RoomH k A) : A.units + 65 < cLine := by
  have := r.un
  omega
theorem huH {k : Nat} {A : Around} (r : L2H.RoomH k A) : A.units + 1 < cLine := by
  have := r.un
  omega
section
variable {X : Cx} {tg e : Expr} {te : TE} {K : PySem.W.Frag}
/-- pi_keysH, told as the library tells it where no exception is handled -/
def iKeysB (te : TE) : TI := fun σ H R => te σ H fun x H1 => ∃ d o, x = .ref d ∧ ((∃ kvs, H1 d = some (.frz o (.dK kvs)) ∧ R (Itk d o kvs) H1) ∨ False)
theorem pi_keysB (he : PE X e te) : L2H.PIH X tg e (iKeysB te) :=
  ⟨fun pins s σ H R I h => thn (he.run pins s σ H _ I h) fun v s1 ⟨x, H1, I1, r, d, o, ex, q⟩ => by
    subst ex
    cases r
    obtain ⟨kvs, lock, q⟩ | none_ := q
    · obtain ⟨lo, there, plain, es, ep, vs, data, size, _, _⟩ := I1.frzK lock
      exact iter_keys lo there plain data (begun (tk := s1.toks) I1 _ (turnH_keys _ data) ⟨_, Heap.get?_push_size _ rfl, rfl, by rw [size] <;> rfl⟩ q)
    · exact none_.elim⟩
theorem pi_listHK (hK : X.K = K) (he : PE X e te) : L2H.PIH X tg e (iList K te) := hK ▸ pi_listH he
theorem pi_tupHK (hK : X.K = K) (he : PE X e te) : L2H.PIH X tg e (iTup K te) := hK ▸ pi_tupH he
end
end UJ
-- UX
-- UF
-- UC
-- UH
-- UK
-- UB
-- UJ
-- UZ
namespace K24
open PySem L2 UW UP UT UD UG
def topS (i : Nat) : Stmt := PySem.Challenge.pw_unitwants_k24_shelves_never_change.main.body.getD i (.Pass ⟨0, 0, 0, 0⟩)
abbrev s_Shelf_init : Stmt := inClass (topS 8) 0
abbrev N_Shelf_init : List Str := ["self", "units", "by_name", "unit"]
theorem sc_Shelf_init : FnScope N_Shelf_init ["self", "units"] (defScope s_Shelf_init) := ⟨rfl, rfl, rfl, by decide +kernel, rfl, by decide +kernel, by decide +kernel⟩
abbrev s_Shelf_names : Stmt := inClass (topS 8) 2
abbrev N_Shelf_names : List Str := ["self"]
theorem sc_Shelf_names : FnScope N_Shelf_names ["self"] (defScope s_Shelf_names) := ⟨rfl, rfl, rfl, by decide +kernel, rfl, by decide +kernel, by decide +kernel⟩
abbrev s_Shelf_has : Stmt := inClass (topS 8) 3
abbrev N_Shelf_has : List Str := ["self", "name"]
theorem sc_Shelf_has : FnScope N_Shelf_has ["self", "name"] (defScope s_Shelf_has) := ⟨rfl, rfl, rfl, by decide +kernel, rfl, by decide +kernel, by decide +kernel⟩
abbrev s_Shelf_unit : Stmt := inClass (topS 8) 4
abbrev N_Shelf_unit : List Str := ["self", "name"]
theorem sc_Shelf_unit : FnScope N_Shelf_unit ["self", "name"] (defScope s_Shelf_unit) := ⟨rfl, rfl, rfl, by decide +kernel, rfl, by decide +kernel, by decide +kernel⟩
abbrev s_Shelf_needing : Stmt := inClass (topS 8) 5
abbrev N_Shelf_needing : List Str := ["self", "name", "other"]
theorem sc_Shelf_needing : FnScope N_Shelf_needing ["self", "name"] (defScope s_Shelf_needing) := ⟨rfl, rfl, rfl, by decide +kernel, rfl, by decide +kernel, by decide +kernel⟩
abbrev s_Shelf_barred : Stmt := inClass (topS 8) 6
abbrev N_Shelf_barred : List Str := ["self", "name", "bars", "other"]
theorem sc_Shelf_barred : FnScope N_Shelf_barred ["self", "name"] (defScope s_Shelf_barred) := ⟨rfl, rfl, rfl, by decide +kernel, rfl, by decide +kernel, by decide +kernel⟩
abbrev s_Shelf_waited : Stmt := inClass (topS 8) 7
abbrev N_Shelf_waited : List Str := ["self", "name", "unit", "other"]
theorem sc_Shelf_waited : FnScope N_Shelf_waited ["self", "name"] (defScope s_Shelf_waited) := ⟨rfl, rfl, rfl, by decide +kernel, rfl, by decide +kernel, by decide +kernel⟩
abbrev s_Shelf_with_unit : Stmt := inClass (topS 8) 8
abbrev N_Shelf_with_unit : List Str := ["self", "unit", "others", "name"]
theorem sc_Shelf_with_unit : FnScope N_Shelf_with_unit ["self", "unit"] (defScope s_Shelf_with_unit) := ⟨rfl, rfl, rfl, by decide +kernel, rfl, by decide +kernel, by decide +kernel⟩
abbrev s_at_once : Stmt := topS 10
abbrev N_at_once : List Str := ["shelf", "demand", "name", "way", "needed", "barred", "other"]
theorem sc_at_once : FnScope N_at_once ["shelf", "demand"] (defScope s_at_once) := ⟨rfl, rfl, rfl, by decide +kernel, rfl, by decide +kernel, by decide +kernel⟩
abbrev s_causes : Stmt := topS 11
abbrev N_causes : List Str := ["shelf", "demands", "demand", "found", "front", "reached", "other"]
theorem sc_causes : FnScope N_causes ["shelf", "demands"] (defScope s_causes) := ⟨rfl, rfl, rfl, by decide +kernel, rfl, by decide +kernel, by decide +kernel⟩
abbrev s_chain_to : Stmt := topS 12
abbrev N_chain_to : List Str := ["found", "goal", "links", "link"]
theorem sc_chain_to : FnScope N_chain_to ["found", "goal"] (defScope s_chain_to) := ⟨rfl, rfl, rfl, by decide +kernel, rfl, by decide +kernel, by decide +kernel⟩
abbrev s_chain : Stmt := topS 13
abbrev N_chain : List Str := ["shelf", "demands", "goal", "found"]
theorem sc_chain : FnScope N_chain ["shelf", "demands", "goal"] (defScope s_chain) := ⟨rfl, rfl, rfl, by decide +kernel, rfl, by decide +kernel, by decide +kernel⟩
abbrev s_next_in : Stmt := topS 15
abbrev N_next_in : List Str := ["waiting", "order", "name", "other"]
theorem sc_next_in : FnScope N_next_in ["waiting", "order"] (defScope s_next_in) := ⟨rfl, rfl, rfl, by decide +kernel, rfl, by decide +kernel, by decide +kernel⟩
abbrev s_free_order : Stmt := topS 16
abbrev N_free_order : List Str := ["shelf", "names", "waiting", "order", "least", "name", "other"]
theorem sc_free_order : FnScope N_free_order ["shelf", "names"] (defScope s_free_order) := ⟨rfl, rfl, rfl, by decide +kernel, rfl, by decide +kernel, by decide +kernel⟩
abbrev s_ring_in : Stmt := topS 17
abbrev N_ring_in : List Str := ["shelf", "stuck", "trail", "name", "other"]
theorem sc_ring_in : FnScope N_ring_in ["shelf", "stuck"] (defScope s_ring_in) := ⟨rfl, rfl, rfl, by decide +kernel, rfl, by decide +kernel, by decide +kernel⟩
abbrev s_knot_in : Stmt := topS 18
abbrev N_knot_in : List Str := ["shelf", "names", "order", "stuck", "name"]
theorem sc_knot_in : FnScope N_knot_in ["shelf", "names"] (defScope s_knot_in) := ⟨rfl, rfl, rfl, by decide +kernel, rfl, by decide +kernel, by decide +kernel⟩
abbrev s_Rule_init : Stmt := inClass (topS 20) 0
abbrev N_Rule_init : List Str := ["self", "first", "times", "top", "burst", "span"]
theorem sc_Rule_init : FnScope N_Rule_init ["self", "first", "times", "top", "burst", "span"] (defScope s_Rule_init) := ⟨rfl, rfl, rfl, by decide +kernel, rfl, by decide +kernel, by decide +kernel⟩
abbrev s_Rule_eq : Stmt := inClass (topS 20) 1
abbrev N_Rule_eq : List Str := ["self", "other"]
theorem sc_Rule_eq : FnScope N_Rule_eq ["self", "other"] (defScope s_Rule_eq) := ⟨rfl, rfl, rfl, by decide +kernel, rfl, by decide +kernel, by decide +kernel⟩
abbrev s_Rule_str : Stmt := inClass (topS 20) 2
abbrev N_Rule_str : List Str := ["self"]
theorem sc_Rule_str : FnScope N_Rule_str ["self"] (defScope s_Rule_str) := ⟨rfl, rfl, rfl, by decide +kernel, rfl, by decide +kernel, by decide +kernel⟩
abbrev s_Unit_init : Stmt := inClass (topS 22) 0
abbrev N_Unit_init : List Str := ["self", "name", "kind", "needs", "wants", "bars", "after", "opens", "rule"]
theorem sc_Unit_init : FnScope N_Unit_init ["self", "name", "kind", "needs", "wants", "bars", "after", "opens", "rule"] (defScope s_Unit_init) := ⟨rfl, rfl, rfl, by decide +kernel, rfl, by decide +kernel, by decide +kernel⟩
abbrev s_Unit_eq : Stmt := inClass (topS 22) 1
abbrev N_Unit_eq : List Str := ["self", "other"]
theorem sc_Unit_eq : FnScope N_Unit_eq ["self", "other"] (defScope s_Unit_eq) := ⟨rfl, rfl, rfl, by decide +kernel, rfl, by decide +kernel, by decide +kernel⟩
abbrev s_is_name : Stmt := topS 28
abbrev N_is_name : List Str := ["word", "sign"]
theorem sc_is_name : FnScope N_is_name ["word"] (defScope s_is_name) := ⟨rfl, rfl, rfl, by decide +kernel, rfl, by decide +kernel, by decide +kernel⟩
abbrev s_number_in : Stmt := topS 29
abbrev N_number_in : List Str := ["word", "sign"]
theorem sc_number_in : FnScope N_number_in ["word"] (defScope s_number_in) := ⟨rfl, rfl, rfl, by decide +kernel, rfl, by decide +kernel, by decide +kernel⟩
abbrev s_show_unit : Stmt := topS 35
abbrev N_show_unit : List Str := ["unit", "lines", "lists", "word", "names"]
theorem sc_show_unit : FnScope N_show_unit ["unit"] (defScope s_show_unit) := ⟨rfl, rfl, rfl, by decide +kernel, rfl, by decide +kernel, by decide +kernel⟩
abbrev s_show_shelf : Stmt := topS 36
abbrev N_show_shelf : List Str := ["shelf", "name"]
theorem sc_show_shelf : FnScope N_show_shelf ["shelf"] (defScope s_show_shelf) := ⟨rfl, rfl, rfl, by decide +kernel, rfl, by decide +kernel, by decide +kernel⟩
abbrev s_read_head : Stmt := topS 37
abbrev N_read_head : List Str := ["line", "words"]
theorem sc_read_head : FnScope N_read_head ["line"] (defScope s_read_head) := ⟨rfl, rfl, rfl, by decide +kernel, rfl, by decide +kernel, by decide +kernel⟩
abbrev s_read_lines : Stmt := topS 38
abbrev N_read_lines : List Str := ["lines", "word", "behind", "left", "line", "rest"]
theorem sc_read_lines : FnScope N_read_lines ["lines"] (defScope s_read_lines) := ⟨rfl, rfl, rfl, by decide +kernel, rfl, by decide +kernel, by decide +kernel⟩
abbrev s_read_names : Stmt := topS 39
abbrev N_read_names : List Str := ["words", "own", "at", "word"]
theorem sc_read_names : FnScope N_read_names ["words", "own"] (defScope s_read_names) := ⟨rfl, rfl, rfl, by decide +kernel, rfl, by decide +kernel, by decide +kernel⟩
abbrev s_read_opens : Stmt := topS 40
abbrev N_read_opens : List Str := ["words", "own", "kind", "names"]
theorem sc_read_opens : FnScope N_read_opens ["words", "own", "kind"] (defScope s_read_opens) := ⟨rfl, rfl, rfl, by decide +kernel, rfl, by decide +kernel, by decide +kernel⟩
abbrev s_read_rule : Stmt := topS 41
abbrev N_read_rule : List Str := ["words", "numbers", "number", "least", "most", "first", "times", "top", "burst", "span", "word"]
theorem sc_read_rule : FnScope N_read_rule ["words"] (defScope s_read_rule) := ⟨rfl, rfl, rfl, by decide +kernel, rfl, by decide +kernel, by decide +kernel⟩
abbrev s_read_unit : Stmt := topS 42
abbrev N_read_unit : List Str := ["text", "head", "lines", "name", "kind", "behind"]
theorem sc_read_unit : FnScope N_read_unit ["text"] (defScope s_read_unit) := ⟨rfl, rfl, rfl, by decide +kernel, rfl, by decide +kernel, by decide +kernel⟩
abbrev s_read_shelf : Stmt := topS 43
abbrev N_read_shelf : List Str := ["text", "units", "names", "part", "unit"]
theorem sc_read_shelf : FnScope N_read_shelf ["text"] (defScope s_read_shelf) := ⟨rfl, rfl, rfl, by decide +kernel, rfl, by decide +kernel, by decide +kernel⟩
abbrev s_law_bag : Stmt := topS 45
abbrev N_law_bag : List Str := ["_law_script", "_law_at", "_law_cell", "_law_far"]
theorem sc_law_bag : FnScope N_law_bag ["_law_script", "_law_at"] (defScope s_law_bag) := ⟨rfl, rfl, rfl, by decide +kernel, rfl, by decide +kernel, by decide +kernel⟩
abbrev s_law_take : Stmt := topS 46
abbrev N_law_take : List Str := ["_law_bag_here", "_law_size", "_law_digit", "_law_primes", "_law_stage", "_law_basis", "_law_found"]
theorem sc_law_take : FnScope N_law_take ["_law_bag_here", "_law_size"] (defScope s_law_take) := ⟨rfl, rfl, rfl, by decide +kernel, rfl, by decide +kernel, by decide +kernel⟩
abbrev s_law_name : Stmt := topS 47
abbrev N_law_name : List Str := ["_law_bag_here", "_law_letters", "_law_size", "_law_spot"]
theorem sc_law_name : FnScope N_law_name ["_law_bag_here"] (defScope s_law_name) := ⟨rfl, rfl, rfl, by decide +kernel, rfl, by decide +kernel, by decide +kernel⟩
abbrev s_law_names : Stmt := topS 48
abbrev N_law_names : List Str := ["_law_bag_here", "_law_size", "_law_found", "_law_spot", "_law_word", "_law_one"]
theorem sc_law_names : FnScope N_law_names ["_law_bag_here", "_law_size"] (defScope s_law_names) := ⟨rfl, rfl, rfl, by decide +kernel, rfl, by decide +kernel, by decide +kernel⟩
abbrev s_law_rule_parts : Stmt := topS 49
abbrev N_law_rule_parts : List Str := ["_law_bag_here", "_law_some_here"]
theorem sc_law_rule_parts : FnScope N_law_rule_parts ["_law_bag_here"] (defScope s_law_rule_parts) := ⟨rfl, rfl, rfl, by decide +kernel, rfl, by decide +kernel, by decide +kernel⟩
abbrev s_law_rule : Stmt := topS 50
abbrev N_law_rule : List Str := ["_law_five"]
theorem sc_law_rule : FnScope N_law_rule ["_law_five"] (defScope s_law_rule) := ⟨rfl, rfl, rfl, by decide +kernel, rfl, by decide +kernel, by decide +kernel⟩
abbrev s_law_some : Stmt := topS 51
abbrev N_law_some : List Str := ["_law_bag_here", "_law_pool", "_law_most", "_law_left", "_law_found", "_law_turn"]
theorem sc_law_some : FnScope N_law_some ["_law_bag_here", "_law_pool", "_law_most"] (defScope s_law_some) := ⟨rfl, rfl, rfl, by decide +kernel, rfl, by decide +kernel, by decide +kernel⟩
abbrev s_law_facts : Stmt := topS 52
abbrev N_law_facts : List Str := ["_law_bag_here", "_law_most", "_law_named", "_law_strange", "_law_loose", "_law_found", "_law_word", "_law_pool", "_law_wide", "_law_musts", "_law_likes", "_law_foes", "_law_elders", "_law_sort", "_law_goal", "_law_five", "_law_one"]
theorem sc_law_facts : FnScope N_law_facts ["_law_bag_here", "_law_most"] (defScope s_law_facts) := ⟨rfl, rfl, rfl, by decide +kernel, rfl, by decide +kernel, by decide +kernel⟩
abbrev s_law_unit : Stmt := topS 53
abbrev N_law_unit : List Str := ["_law_word", "_law_facts_here", "_law_sort", "_law_musts", "_law_likes", "_law_foes", "_law_elders", "_law_goal", "_law_five", "_law_way_on"]
theorem sc_law_unit : FnScope N_law_unit ["_law_word", "_law_facts_here"] (defScope s_law_unit) := ⟨rfl, rfl, rfl, by decide +kernel, rfl, by decide +kernel, by decide +kernel⟩
abbrev s_law_units : Stmt := topS 54
abbrev N_law_units : List Str := ["_law_facts_here", "_law_word"]
theorem sc_law_units : FnScope N_law_units ["_law_facts_here"] (defScope s_law_units) := ⟨rfl, rfl, rfl, by decide +kernel, rfl, by decide +kernel, by decide +kernel⟩
abbrev s_law_needing : Stmt := topS 55
abbrev N_law_needing : List Str := ["_law_facts_here", "_law_word", "_law_one"]
theorem sc_law_needing : FnScope N_law_needing ["_law_facts_here", "_law_word"] (defScope s_law_needing) := ⟨rfl, rfl, rfl, by decide +kernel, rfl, by decide +kernel, by decide +kernel⟩
abbrev s_law_barred : Stmt := topS 56
abbrev N_law_barred : List Str := ["_law_facts_here", "_law_word", "_law_one"]
theorem sc_law_barred : FnScope N_law_barred ["_law_facts_here", "_law_word"] (defScope s_law_barred) := ⟨rfl, rfl, rfl, by decide +kernel, rfl, by decide +kernel, by decide +kernel⟩
abbrev s_law_waited : Stmt := topS 58
abbrev N_law_waited : List Str := ["_law_facts_here", "_law_word", "_law_named", "_law_one"]
theorem sc_law_waited : FnScope N_law_waited ["_law_facts_here", "_law_word"] (defScope s_law_waited) := ⟨rfl, rfl, rfl, by decide +kernel, rfl, by decide +kernel, by decide +kernel⟩
abbrev s_law_unit_text : Stmt := topS 59
abbrev N_law_unit_text : List Str := ["_law_word", "_law_facts_here", "_law_sort", "_law_musts", "_law_likes", "_law_foes", "_law_elders", "_law_goal", "_law_five", "_law_rows", "_law_head", "_law_some_here", "_law_number"]
theorem sc_law_unit_text : FnScope N_law_unit_text ["_law_word", "_law_facts_here"] (defScope s_law_unit_text) := ⟨rfl, rfl, rfl, by decide +kernel, rfl, by decide +kernel, by decide +kernel⟩
abbrev s_law_shelf_text : Stmt := topS 60
abbrev N_law_shelf_text : List Str := ["_law_facts_here", "_law_word"]
theorem sc_law_shelf_text : FnScope N_law_shelf_text ["_law_facts_here"] (defScope s_law_shelf_text) := ⟨rfl, rfl, rfl, by decide +kernel, rfl, by decide +kernel, by decide +kernel⟩
abbrev s_law_shelf_right : Stmt := topS 61
abbrev N_law_shelf_right : List Str := ["_law_shelf", "_law_facts_here", "_law_word"]
theorem sc_law_shelf_right : FnScope N_law_shelf_right ["_law_shelf", "_law_facts_here"] (defScope s_law_shelf_right) := ⟨rfl, rfl, rfl, by decide +kernel, rfl, by decide +kernel, by decide +kernel⟩
abbrev s_law_told : Stmt := topS 62
abbrev N_law_told : List Str := ["_law_bag_here", "_law_shelf", "_law_words", "_law_word", "_law_way", "_law_handed", "_law_told_here", "_law_some_here"]
theorem sc_law_told : FnScope N_law_told ["_law_bag_here", "_law_shelf", "_law_words"] (defScope s_law_told) := ⟨rfl, rfl, rfl, by decide +kernel, rfl, by decide +kernel, by decide +kernel⟩
abbrev s_law_more : Stmt := topS 63
abbrev N_law_more : List Str := ["_law_bag_here", "_law_shelf", "_law_facts_here", "_law_word", "_law_found"]
theorem sc_law_more : FnScope N_law_more ["_law_bag_here", "_law_shelf", "_law_facts_here"] (defScope s_law_more) := ⟨rfl, rfl, rfl, by decide +kernel, rfl, by decide +kernel, by decide +kernel⟩
abbrev s_law : Stmt := topS 64
abbrev N_law : List Str := ["_law_script", "_law_begun", "_law_kept", "_law_turn", "_law_facts_here", "_law_made", "_law_told_here", "_law_k", "_law_bag_here", "_law_shelf", "_law_some_here", "_law_way", "_law_words"]
theorem sc_law : FnScope N_law ["_law_script"] (defScope s_law) := ⟨rfl, rfl, rfl, by decide +kernel, rfl, by decide +kernel, by decide +kernel⟩
structure Txt (K : PySem.W.Frag) (mg : Str → Option Value) where
  d_Shelf_init : FuncData
  F_Shelf_init : FunD K "__init__" "Shelf.__init__" (defArgs s_Shelf_init) (defBody s_Shelf_init) (defScope s_Shelf_init) [V.ref (He.dflAt ("Shelf", some "__init__") 0 K)] [] (He.fAd K ("Shelf", some "__init__")) d_Shelf_init
  b2_Shelf_init : Binds K d_Shelf_init ["self", "units"] []
  b1_Shelf_init : ∃ ds, Vals [V.ref (He.dflAt ("Shelf", some "__init__") 0 K)] ds ∧ Binds K d_Shelf_init ["self", "units"] ds
  e1_Shelf_init : ∀ H, SqT K H (He.dflAt ("Shelf", some "__init__") 0 K) []
  d_Shelf_names : FuncData
  F_Shelf_names : FunD K "names" "Shelf.names" (defArgs s_Shelf_names) (defBody s_Shelf_names) (defScope s_Shelf_names) [] [] (He.fAd K ("Shelf", some "names")) d_Shelf_names
  b_Shelf_names : Binds K d_Shelf_names ["self"] []
  me_Shelf_names : Meth K (He.ga K "Shelf") "names" (He.fAd K ("Shelf", some "names"))
  d_Shelf_has : FuncData
  F_Shelf_has : FunD K "has" "Shelf.has" (defArgs s_Shelf_has) (defBody s_Shelf_has) (defScope s_Shelf_has) [] [] (He.fAd K ("Shelf", some "has")) d_Shelf_has
  b_Shelf_has : Binds K d_Shelf_has ["self", "name"] []
  me_Shelf_has : Meth K (He.ga K "Shelf") "has" (He.fAd K ("Shelf", some "has"))
  d_Shelf_unit : FuncData
  F_Shelf_unit : FunD K "unit" "Shelf.unit" (defArgs s_Shelf_unit) (defBody s_Shelf_unit) (defScope s_Shelf_unit) [] [] (He.fAd K ("Shelf", some "unit")) d_Shelf_unit
  b_Shelf_unit : Binds K d_Shelf_unit ["self", "name"] []
  me_Shelf_unit : Meth K (He.ga K "Shelf") "unit" (He.fAd K ("Shelf", some "unit"))
  d_Shelf_needing : FuncData
  F_Shelf_needing : FunD K "needing" "Shelf.needing" (defArgs s_Shelf_needing) (defBody s_Shelf_needing) (defScope s_Shelf_needing) [] [] (He.fAd K ("Shelf", some "needing")) d_Shelf_needing
  b_Shelf_needing : Binds K d_Shelf_needing ["self", "name"] []
  me_Shelf_needing : Meth K (He.ga K "Shelf") "needing" (He.fAd K ("Shelf", some "needing"))
  d_Shelf_barred : FuncData
  F_Shelf_barred : FunD K "barred" "Shelf.barred" (defArgs s_Shelf_barred) (defBody s_Shelf_barred) (defScope s_Shelf_barred) [] [] (He.fAd K ("Shelf", some "barred")) d_Shelf_barred
  b_Shelf_barred : Binds K d_Shelf_barred ["self", "name"] []
  me_Shelf_barred : Meth K (He.ga K "Shelf") "barred" (He.fAd K ("Shelf", some "barred"))
  d_Shelf_waited : FuncData
  F_Shelf_waited : FunD K "waited" "Shelf.waited" (defArgs s_Shelf_waited) (defBody s_Shelf_waited) (defScope s_Shelf_waited) [] [] (He.fAd K ("Shelf", some "waited")) d_Shelf_waited
  b_Shelf_waited : Binds K d_Shelf_waited ["self", "name"] []
  me_Shelf_waited : Meth K (He.ga K "Shelf") "waited" (He.fAd K ("Shelf", some "waited"))
  d_Shelf_with_unit : FuncData
  F_Shelf_with_unit : FunD K "with_unit" "Shelf.with_unit" (defArgs s_Shelf_with_unit) (defBody s_Shelf_with_unit) (defScope s_Shelf_with_unit) [] [] (He.fAd K ("Shelf", some "with_unit")) d_Shelf_with_unit
  b_Shelf_with_unit : Binds K d_Shelf_with_unit ["self", "unit"] []
  me_Shelf_with_unit : Meth K (He.ga K "Shelf") "with_unit" (He.fAd K ("Shelf", some "with_unit"))
  d_at_once : FuncData
  F_at_once : FunD K "at_once" "at_once" (defArgs s_at_once) (defBody s_at_once) (defScope s_at_once) [] [] (He.fAd K ("at_once", none)) d_at_once
  m_at_once : mg "at_once" = some (.ref (He.ga K "at_once"))
  b_at_once : Binds K d_at_once ["shelf", "demand"] []
  d_causes : FuncData
  F_causes : FunD K "causes" "causes" (defArgs s_causes) (defBody s_causes) (defScope s_causes) [] [] (He.fAd K ("causes", none)) d_causes
  m_causes : mg "causes" = some (.ref (He.ga K "causes"))
  b_causes : Binds K d_causes ["shelf", "demands"] []
  d_chain_to : FuncData
  F_chain_to : FunD K "chain_to" "chain_to" (defArgs s_chain_to) (defBody s_chain_to) (defScope s_chain_to) [] [] (He.fAd K ("chain_to", none)) d_chain_to
  m_chain_to : mg "chain_to" = some (.ref (He.ga K "chain_to"))
  b_chain_to : Binds K d_chain_to ["found", "goal"] []
  d_chain : FuncData
  F_chain : FunD K "chain" "chain" (defArgs s_chain) (defBody s_chain) (defScope s_chain) [] [] (He.fAd K ("chain", none)) d_chain
  m_chain : mg "chain" = some (.ref (He.ga K "chain"))
  b_chain : Binds K d_chain ["shelf", "demands", "goal"] []
  d_next_in : FuncData
  F_next_in : FunD K "next_in" "next_in" (defArgs s_next_in) (defBody s_next_in) (defScope s_next_in) [] [] (He.fAd K ("next_in", none)) d_next_in
  m_next_in : mg "next_in" = some (.ref (He.ga K "next_in"))
  b_next_in : Binds K d_next_in ["waiting", "order"] []
  d_free_order : FuncData
  F_free_order : FunD K "free_order" "free_order" (defArgs s_free_order) (defBody s_free_order) (defScope s_free_order) [] [] (He.fAd K ("free_order", none)) d_free_order
  m_free_order : mg "free_order" = some (.ref (He.ga K "free_order"))
  b_free_order : Binds K d_free_order ["shelf", "names"] []
  d_ring_in : FuncData
  F_ring_in : FunD K "ring_in" "ring_in" (defArgs s_ring_in) (defBody s_ring_in) (defScope s_ring_in) [] [] (He.fAd K ("ring_in", none)) d_ring_in
  m_ring_in : mg "ring_in" = some (.ref (He.ga K "ring_in"))
  b_ring_in : Binds K d_ring_in ["shelf", "stuck"] []
  d_knot_in : FuncData
  F_knot_in : FunD K "knot_in" "knot_in" (defArgs s_knot_in) (defBody s_knot_in) (defScope s_knot_in) [] [] (He.fAd K ("knot_in", none)) d_knot_in
  m_knot_in : mg "knot_in" = some (.ref (He.ga K "knot_in"))
  b_knot_in : Binds K d_knot_in ["shelf", "names"] []
  d_Rule_init : FuncData
  F_Rule_init : FunD K "__init__" "Rule.__init__" (defArgs s_Rule_init) (defBody s_Rule_init) (defScope s_Rule_init) [] [("first", V.int 1), ("times", V.int 2), ("top", V.int 64), ("burst", V.int 5), ("span", V.int 100)] (He.fAd K ("Rule", some "__init__")) d_Rule_init
  d_Rule_eq : FuncData
  F_Rule_eq : FunD K "__eq__" "Rule.__eq__" (defArgs s_Rule_eq) (defBody s_Rule_eq) (defScope s_Rule_eq) [] [] (He.fAd K ("Rule", some "__eq__")) d_Rule_eq
  b_Rule_eq : Binds K d_Rule_eq ["self", "other"] []
  me_Rule_eq : Meth K (He.ga K "Rule") "__eq__" (He.fAd K ("Rule", some "__eq__"))
  d_Rule_str : FuncData
  F_Rule_str : FunD K "__str__" "Rule.__str__" (defArgs s_Rule_str) (defBody s_Rule_str) (defScope s_Rule_str) [] [] (He.fAd K ("Rule", some "__str__")) d_Rule_str
  b_Rule_str : Binds K d_Rule_str ["self"] []
  me_Rule_str : Meth K (He.ga K "Rule") "__str__" (He.fAd K ("Rule", some "__str__"))
  d_Unit_init : FuncData
  F_Unit_init : FunD K "__init__" "Unit.__init__" (defArgs s_Unit_init) (defBody s_Unit_init) (defScope s_Unit_init) [] [("kind", V.str "work"), ("needs", V.ref (UO.kwAdr K ("Unit", some "__init__") "needs")), ("wants", V.ref (UO.kwAdr K ("Unit", some "__init__") "wants")), ("bars", V.ref (UO.kwAdr K ("Unit", some "__init__") "bars")), ("after", V.ref (UO.kwAdr K ("Unit", some "__init__") "after")), ("opens", V.non), ("rule", V.non)] (He.fAd K ("Unit", some "__init__")) d_Unit_init
  d_Unit_eq : FuncData
  F_Unit_eq : FunD K "__eq__" "Unit.__eq__" (defArgs s_Unit_eq) (defBody s_Unit_eq) (defScope s_Unit_eq) [] [] (He.fAd K ("Unit", some "__eq__")) d_Unit_eq
  b_Unit_eq : Binds K d_Unit_eq ["self", "other"] []
  me_Unit_eq : Meth K (He.ga K "Unit") "__eq__" (He.fAd K ("Unit", some "__eq__"))
  d_is_name : FuncData
  F_is_name : FunD K "is_name" "is_name" (defArgs s_is_name) (defBody s_is_name) (defScope s_is_name) [] [] (He.fAd K ("is_name", none)) d_is_name
  m_is_name : mg "is_name" = some (.ref (He.ga K "is_name"))
  b_is_name : Binds K d_is_name ["word"] []
  d_number_in : FuncData
  F_number_in : FunD K "number_in" "number_in" (defArgs s_number_in) (defBody s_number_in) (defScope s_number_in) [] [] (He.fAd K ("number_in", none)) d_number_in
  m_number_in : mg "number_in" = some (.ref (He.ga K "number_in"))
  b_number_in : Binds K d_number_in ["word"] []
  d_show_unit : FuncData
  F_show_unit : FunD K "show_unit" "show_unit" (defArgs s_show_unit) (defBody s_show_unit) (defScope s_show_unit) [] [] (He.fAd K ("show_unit", none)) d_show_unit
  m_show_unit : mg "show_unit" = some (.ref (He.ga K "show_unit"))
  b_show_unit : Binds K d_show_unit ["unit"] []
  d_show_shelf : FuncData
  F_show_shelf : FunD K "show_shelf" "show_shelf" (defArgs s_show_shelf) (defBody s_show_shelf) (defScope s_show_shelf) [] [] (He.fAd K ("show_shelf", none)) d_show_shelf
  m_show_shelf : mg "show_shelf" = some (.ref (He.ga K "show_shelf"))
  b_show_shelf : Binds K d_show_shelf ["shelf"] []
  d_read_head : FuncData
  F_read_head : FunD K "read_head" "read_head" (defArgs s_read_head) (defBody s_read_head) (defScope s_read_head) [] [] (He.fAd K ("read_head", none)) d_read_head
  m_read_head : mg "read_head" = some (.ref (He.ga K "read_head"))
  b_read_head : Binds K d_read_head ["line"] []
  d_read_lines : FuncData
  F_read_lines : FunD K "read_lines" "read_lines" (defArgs s_read_lines) (defBody s_read_lines) (defScope s_read_lines) [] [] (He.fAd K ("read_lines", none)) d_read_lines
  m_read_lines : mg "read_lines" = some (.ref (He.ga K "read_lines"))
  b_read_lines : Binds K d_read_lines ["lines"] []
  d_read_names : FuncData
  F_read_names : FunD K "read_names" "read_names" (defArgs s_read_names) (defBody s_read_names) (defScope s_read_names) [] [] (He.fAd K ("read_names", none)) d_read_names
  m_read_names : mg "read_names" = some (.ref (He.ga K "read_names"))
  b_read_names : Binds K d_read_names ["words", "own"] []
  d_read_opens : FuncData
  F_read_opens : FunD K "read_opens" "read_opens" (defArgs s_read_opens) (defBody s_read_opens) (defScope s_read_opens) [] [] (He.fAd K ("read_opens", none)) d_read_opens
  m_read_opens : mg "read_opens" = some (.ref (He.ga K "read_opens"))
  b_read_opens : Binds K d_read_opens ["words", "own", "kind"] []
  d_read_rule : FuncData
  F_read_rule : FunD K "read_rule" "read_rule" (defArgs s_read_rule) (defBody s_read_rule) (defScope s_read_rule) [] [] (He.fAd K ("read_rule", none)) d_read_rule
  m_read_rule : mg "read_rule" = some (.ref (He.ga K "read_rule"))
  b_read_rule : Binds K d_read_rule ["words"] []
  d_read_unit : FuncData
  F_read_unit : FunD K "read_unit" "read_unit" (defArgs s_read_unit) (defBody s_read_unit) (defScope s_read_unit) [] [] (He.fAd K ("read_unit", none)) d_read_unit
  m_read_unit : mg "read_unit" = some (.ref (He.ga K "read_unit"))
  b_read_unit : Binds K d_read_unit ["text"] []
  d_read_shelf : FuncData
  F_read_shelf : FunD K "read_shelf" "read_shelf" (defArgs s_read_shelf) (defBody s_read_shelf) (defScope s_read_shelf) [] [] (He.fAd K ("read_shelf", none)) d_read_shelf
  m_read_shelf : mg "read_shelf" = some (.ref (He.ga K "read_shelf"))
  b_read_shelf : Binds K d_read_shelf ["text"] []
  d_law_bag : FuncData
  F_law_bag : FunD K "_law_bag" "_law_bag" (defArgs s_law_bag) (defBody s_law_bag) (defScope s_law_bag) [] [] (He.fAd K ("_law_bag", none)) d_law_bag
  m_law_bag : mg "_law_bag" = some (.ref (He.ga K "_law_bag"))
  b_law_bag : Binds K d_law_bag ["_law_script", "_law_at"] []
  d_law_take : FuncData
  F_law_take : FunD K "_law_take" "_law_take" (defArgs s_law_take) (defBody s_law_take) (defScope s_law_take) [] [] (He.fAd K ("_law_take", none)) d_law_take
  m_law_take : mg "_law_take" = some (.ref (He.ga K "_law_take"))
  b_law_take : Binds K d_law_take ["_law_bag_here", "_law_size"] []
  d_law_name : FuncData
  F_law_name : FunD K "_law_name" "_law_name" (defArgs s_law_name) (defBody s_law_name) (defScope s_law_name) [] [] (He.fAd K ("_law_name", none)) d_law_name
  m_law_name : mg "_law_name" = some (.ref (He.ga K "_law_name"))
  b_law_name : Binds K d_law_name ["_law_bag_here"] []
  d_law_names : FuncData
  F_law_names : FunD K "_law_names" "_law_names" (defArgs s_law_names) (defBody s_law_names) (defScope s_law_names) [] [] (He.fAd K ("_law_names", none)) d_law_names
  m_law_names : mg "_law_names" = some (.ref (He.ga K "_law_names"))
  b_law_names : Binds K d_law_names ["_law_bag_here", "_law_size"] []
  d_law_rule_parts : FuncData
  F_law_rule_parts : FunD K "_law_rule_parts" "_law_rule_parts" (defArgs s_law_rule_parts) (defBody s_law_rule_parts) (defScope s_law_rule_parts) [] [] (He.fAd K ("_law_rule_parts", none)) d_law_rule_parts
  m_law_rule_parts : mg "_law_rule_parts" = some (.ref (He.ga K "_law_rule_parts"))
  b_law_rule_parts : Binds K d_law_rule_parts ["_law_bag_here"] []
  d_law_rule : FuncData
  F_law_rule : FunD K "_law_rule" "_law_rule" (defArgs s_law_rule) (defBody s_law_rule) (defScope s_law_rule) [] [] (He.fAd K ("_law_rule", none)) d_law_rule
  m_law_rule : mg "_law_rule" = some (.ref (He.ga K "_law_rule"))
  b_law_rule : Binds K d_law_rule ["_law_five"] []
  d_law_some : FuncData
  F_law_some : FunD K "_law_some" "_law_some" (defArgs s_law_some) (defBody s_law_some) (defScope s_law_some) [] [] (He.fAd K ("_law_some", none)) d_law_some
  m_law_some : mg "_law_some" = some (.ref (He.ga K "_law_some"))
  b_law_some : Binds K d_law_some ["_law_bag_here", "_law_pool", "_law_most"] []
  d_law_facts : FuncData
  F_law_facts : FunD K "_law_facts" "_law_facts" (defArgs s_law_facts) (defBody s_law_facts) (defScope s_law_facts) [] [] (He.fAd K ("_law_facts", none)) d_law_facts
  m_law_facts : mg "_law_facts" = some (.ref (He.ga K "_law_facts"))
  b_law_facts : Binds K d_law_facts ["_law_bag_here", "_law_most"] []
  d_law_unit : FuncData
  F_law_unit : FunD K "_law_unit" "_law_unit" (defArgs s_law_unit) (defBody s_law_unit) (defScope s_law_unit) [] [] (He.fAd K ("_law_unit", none)) d_law_unit
  m_law_unit : mg "_law_unit" = some (.ref (He.ga K "_law_unit"))
  b_law_unit : Binds K d_law_unit ["_law_word", "_law_facts_here"] []
  d_law_units : FuncData
  F_law_units : FunD K "_law_units" "_law_units" (defArgs s_law_units) (defBody s_law_units) (defScope s_law_units) [] [] (He.fAd K ("_law_units", none)) d_law_units
  m_law_units : mg "_law_units" = some (.ref (He.ga K "_law_units"))
  b_law_units : Binds K d_law_units ["_law_facts_here"] []
  d_law_needing : FuncData
  F_law_needing : FunD K "_law_needing" "_law_needing" (defArgs s_law_needing) (defBody s_law_needing) (defScope s_law_needing) [] [] (He.fAd K ("_law_needing", none)) d_law_needing
  m_law_needing : mg "_law_needing" = some (.ref (He.ga K "_law_needing"))
  b_law_needing : Binds K d_law_needing ["_law_facts_here", "_law_word"] []
  d_law_barred : FuncData
  F_law_barred : FunD K "_law_barred" "_law_barred" (defArgs s_law_barred) (defBody s_law_barred) (defScope s_law_barred) [] [] (He.fAd K ("_law_barred", none)) d_law_barred
  m_law_barred : mg "_law_barred" = some (.ref (He.ga K "_law_barred"))
  b_law_barred : Binds K d_law_barred ["_law_facts_here", "_law_word"] []
  d_law_waited : FuncData
  F_law_waited : FunD K "_law_waited" "_law_waited" (defArgs s_law_waited) (defBody s_law_waited) (defScope s_law_waited) [] [] (He.fAd K ("_law_waited", none)) d_law_waited
  m_law_waited : mg "_law_waited" = some (.ref (He.ga K "_law_waited"))
  b_law_waited : Binds K d_law_waited ["_law_facts_here", "_law_word"] []
  d_law_unit_text : FuncData
  F_law_unit_text : FunD K "_law_unit_text" "_law_unit_text" (defArgs s_law_unit_text) (defBody s_law_unit_text) (defScope s_law_unit_text) [] [] (He.fAd K ("_law_unit_text", none)) d_law_unit_text
  m_law_unit_text : mg "_law_unit_text" = some (.ref (He.ga K "_law_unit_text"))
  b_law_unit_text : Binds K d_law_unit_text ["_law_word", "_law_facts_here"] []
  d_law_shelf_text : FuncData
  F_law_shelf_text : FunD K "_law_shelf_text" "_law_shelf_text" (defArgs s_law_shelf_text) (defBody s_law_shelf_text) (defScope s_law_shelf_text) [] [] (He.fAd K ("_law_shelf_text", none)) d_law_shelf_text
  m_law_shelf_text : mg "_law_shelf_text" = some (.ref (He.ga K "_law_shelf_text"))
  b_law_shelf_text : Binds K d_law_shelf_text ["_law_facts_here"] []
  d_law_shelf_right : FuncData
  F_law_shelf_right : FunD K "_law_shelf_right" "_law_shelf_right" (defArgs s_law_shelf_right) (defBody s_law_shelf_right) (defScope s_law_shelf_right) [] [] (He.fAd K ("_law_shelf_right", none)) d_law_shelf_right
  m_law_shelf_right : mg "_law_shelf_right" = some (.ref (He.ga K "_law_shelf_right"))
  b_law_shelf_right : Binds K d_law_shelf_right ["_law_shelf", "_law_facts_here"] []
  d_law_told : FuncData
  F_law_told : FunD K "_law_told" "_law_told" (defArgs s_law_told) (defBody s_law_told) (defScope s_law_told) [] [] (He.fAd K ("_law_told", none)) d_law_told
  m_law_told : mg "_law_told" = some (.ref (He.ga K "_law_told"))
  b_law_told : Binds K d_law_told ["_law_bag_here", "_law_shelf", "_law_words"] []
  d_law_more : FuncData
  F_law_more : FunD K "_law_more" "_law_more" (defArgs s_law_more) (defBody s_law_more) (defScope s_law_more) [] [] (He.fAd K ("_law_more", none)) d_law_more
  m_law_more : mg "_law_more" = some (.ref (He.ga K "_law_more"))
  b_law_more : Binds K d_law_more ["_law_bag_here", "_law_shelf", "_law_facts_here"] []
  d_law : FuncData
  F_law : FunD K "law" "law" (defArgs s_law) (defBody s_law) (defScope s_law) [] [] (He.fAd K ("law", none)) d_law
  m_law : mg "law" = some (.ref (He.ga K "law"))
  b_law : Binds K d_law ["_law_script"] []
  m_Shelf : mg "Shelf" = some (.ref (He.ga K "Shelf"))
  cl_Shelf : Cls K (He.ga K "Shelf")
  mk_Shelf : Mk K (He.ga K "Shelf") (He.fAd K ("Shelf", some "__init__"))
  na_Shelf_by_name : NoAttr K (He.ga K "Shelf") "by_name"
  m_Rule : mg "Rule" = some (.ref (He.ga K "Rule"))
  cl_Rule : Cls K (He.ga K "Rule")
  mk_Rule : Mk K (He.ga K "Rule") (He.fAd K ("Rule", some "__init__"))
  na_Rule_first : NoAttr K (He.ga K "Rule") "first"
  na_Rule_times : NoAttr K (He.ga K "Rule") "times"
  na_Rule_top : NoAttr K (He.ga K "Rule") "top"
  na_Rule_burst : NoAttr K (He.ga K "Rule") "burst"
  na_Rule_span : NoAttr K (He.ga K "Rule") "span"
  m_Unit : mg "Unit" = some (.ref (He.ga K "Unit"))
  cl_Unit : Cls K (He.ga K "Unit")
  mk_Unit : Mk K (He.ga K "Unit") (He.fAd K ("Unit", some "__init__"))
  na_Unit_name : NoAttr K (He.ga K "Unit") "name"
  na_Unit_kind : NoAttr K (He.ga K "Unit") "kind"
  na_Unit_needs : NoAttr K (He.ga K "Unit") "needs"
  na_Unit_wants : NoAttr K (He.ga K "Unit") "wants"
  na_Unit_bars : NoAttr K (He.ga K "Unit") "bars"
  na_Unit_after : NoAttr K (He.ga K "Unit") "after"
  na_Unit_opens : NoAttr K (He.ga K "Unit") "opens"
  na_Unit_rule : NoAttr K (He.ga K "Unit") "rule"
  m_NoUnit : mg "NoUnit" = some (.ref (He.ga K "NoUnit"))
  m_NoShelf : mg "NoShelf" = some (.ref (He.ga K "NoShelf"))
  m_UnitError : mg "UnitError" = some (.ref (He.ga K "UnitError"))
  m_NoText : mg "NoText" = some (.ref (He.ga K "NoText"))
  bx_NoText : UF.Bare K (He.ga K "NoText")
  gt_KINDS : UB.GtAt K (He.ga K "KINDS") [.s "work", .s "goal", .s "door"]
  gt_LINE_WORDS : UB.GtAt K (He.ga K "LINE_WORDS") [.s "needs", .s "wants", .s "bars", .s "after", .s "opens", .s "rule"]
  gt_RULE_BOUNDS : UB.GtAt K (He.ga K "RULE_BOUNDS") [.p 1 1000, .p 1 10, .p 1 1000000, .p 0 20, .p 0 1000000]
  e0_Unit_init_needs : ∀ H, SqT K H (UO.kwAdr K ("Unit", some "__init__") "needs") []
  e0_Unit_init_wants : ∀ H, SqT K H (UO.kwAdr K ("Unit", some "__init__") "wants") []
  e0_Unit_init_bars : ∀ H, SqT K H (UO.kwAdr K ("Unit", some "__init__") "bars") []
  e0_Unit_init_after : ∀ H, SqT K H (UO.kwAdr K ("Unit", some "__init__") "after") []
  ix_Unit : UO.InsX K (He.ga K "Unit")
  ix_Rule : UO.InsX K (He.ga K "Rule")
  px_Unit_Rule : UO.PairX K (He.ga K "Unit") (He.ga K "Rule")
  px_Rule_Unit : UO.PairX K (He.ga K "Rule") (He.ga K "Unit")
  c_MOST : ∃ t, mg "MOST" = some (.int 16 t)
  c_LETTERS : ∃ t, mg "LETTERS" = some (.str "abcdefghijklmnopqrstuvwxyz" t)
  c_FIGURES : ∃ t, mg "FIGURES" = some (.str "0123456789" t)
  c_LONGEST_NAME : ∃ t, mg "LONGEST_NAME" = some (.int 8 t)
  c_LONGEST_NUMBER : ∃ t, mg "LONGEST_NUMBER" = some (.int 7 t)
  m_KINDS : mg "KINDS" = some (.ref (He.ga K "KINDS"))
  m_LINE_WORDS : mg "LINE_WORDS" = some (.ref (He.ga K "LINE_WORDS"))
  c_MOST_NAMES : ∃ t, mg "MOST_NAMES" = some (.int 8 t)
  m_RULE_BOUNDS : mg "RULE_BOUNDS" = some (.ref (He.ga K "RULE_BOUNDS"))
  n_len : mg "len" = none
  n_sorted : mg "sorted" = none
  n_isinstance : mg "isinstance" = none
  n_str : mg "str" = none
  n_list : mg "list" = none
  n_all : mg "all" = none
  n_int : mg "int" = none
  n_enumerate : mg "enumerate" = none
  n_tuple : mg "tuple" = none
  n_zip : mg "zip" = none
  n_set : mg "set" = none
  n_abs : mg "abs" = none
  n_range : mg "range" = none
  n_dict : mg "dict" = none
  n_max : mg "max" = none
  n_min : mg "min" = none
  n_repr : mg "repr" = none
  kb_Rule_init_1_first_times_top_burst_span : ∃ gg, KBn K d_Rule_init ["self", "first", "times", "top", "burst", "span"] 1 ["first", "times", "top", "burst", "span"] gg (fun us ws => us ++ (ws.drop 0).take 1 ++ (ws.drop 1).take 1 ++ (ws.drop 2).take 1 ++ (ws.drop 3).take 1 ++ (ws.drop 4).take 1)
  kb_Unit_init_2_kind_needs_wants_bars_after_opens_rule : ∃ gg, KBn K d_Unit_init ["self", "name", "kind", "needs", "wants", "bars", "after", "opens", "rule"] 2 ["kind", "needs", "wants", "bars", "after", "opens", "rule"] gg (fun us ws => us ++ (ws.drop 0).take 1 ++ (ws.drop 1).take 1 ++ (ws.drop 2).take 1 ++ (ws.drop 3).take 1 ++ (ws.drop 4).take 1 ++ (ws.drop 5).take 1 ++ (ws.drop 6).take 1)
section
variable {P : Program} {w : World} {K : PySem.W.Frag} {mg : Str → Option Value} {base : Heap}
/-! ### the bag and a draw -/
def sp_law_bag (K : PySem.W.Frag) : Sp := fun vs H Q _ => ∃ (a : Addr) (ns : List Int) (k : Nat), vs = [.ref a, .int k] ∧ SqL K H a (ns.map V.int) ∧ k ≤ 1000 ∧
  ∀ p H', H p = none → Same H H' → Bag 0 H' p → Q (.ref p) H'
theorem ok_law_bag (T : Txt K mg) : FnOk P w K mg base CX0 1 (He.fAd K ("_law_bag", none)) T.d_law_bag ["_law_script", "_law_at"] (sp_law_bag K) := by
  refine T.F_law_bag.ok sc_law_bag (fun vs H Q E h => ?_) (fun cdv A outer s H vs Q E hr h => ?_)
  · obtain ⟨a, ns, k, rfl, _⟩ := h
    rfl
  · obtain ⟨a, ns, k, rfl, hS, hk, q⟩ := h
    refine ⟨_, PSs.nox (pss_cons (ps_set (i := 2) sc_law_bag.nd rfl (Or.inl rfl) (pe_op op_add (pe_op op_add (pe_op op_mul (pe_op op_mul pe_int (pv 1)) (pv 1)) (pe_op op_mul pe_int (pv 1))) pe_int))
      (pss_mid (ps_if (pt_cmpR op_lt (pv 1) (pe_callB (id := "len")  call_len_seq (by rfl) T.n_len (by decide +kernel) (pa_cons (pv 0) pa_nil)) (nomark _))
      (pss_one (ps_set (i := 2) sc_law_bag.nd rfl (Or.inl rfl) (pe_ix ix_list (pv 0) (pv 1) (fun _ _ => rfl))))
      pss_nil)
      (pss_cons (ps_set (i := 3) sc_law_bag.nd rfl (Or.inl rfl) (pe_callB (id := "abs")  call_abs (by rfl) T.n_abs (by decide +kernel) (pa_cons (pv 2) pa_nil)))
      (pss_one (ps_ret (pe_lst (pa_cons (pe_op op_mul (pv 3) (pe_callTy (T := "int")  call_int1 (by rfl) T.n_int (by decide +kernel) (pa_cons (pe_cmpR op_ge (pv 3) (pe_op op_powL pe_int pe_int) (nomark _)) pa_nil))) (pa_cons (pe_op op_add (pe_op op_mod (pv 2) (pe_op op_add (pe_op op_powL pe_int pe_int) pe_int)) (pe_op op_mul pe_int (pv 1))) (pa_cons pe_int pa_nil))))))))), ?_⟩
    have hk2 : (k : Int) ≤ 1000 := by omega
    have hk0 : (0 : Int) ≤ k := Int.natCast_nonneg _
    -- cell = 7919 * at * at + 104729 * at + 11
    refine ⟨_, rfl, _, _, rfl, rfl, .inl ⟨by decide, by decide⟩, _, rfl, _, _, rfl, rfl, .inr ⟨by omega, by omega⟩, _, rfl, _, _, rfl, rfl, .inl ⟨by decide, by decide⟩, _, _, rfl, rfl, _, _, rfl, rfl, ?_⟩
    -- if at < len(script)
    refine ⟨fun σ H' => H' = H ∧ ∃ c : Int, σ = [some (.ref a), some (.int k), some (.int c), none], ?_, ?_⟩
    · refine ⟨_, rfl, _, rfl, a, _, rfl, .inl hS, _, _, rfl, rfl, _, rfl, ?_⟩
      refine ite2 (fun hc => ?_) (fun hc => ?_)
      · have hlt : k < ns.length := by
          have := of_decide_eq_true hc
          rw [List.length_map] at this
          omega
        exact ⟨_, rfl, _, rfl, a, _, _, .int ns[k], rfl, rfl, hS, atI_nat (by rw [List.getElem?_map, List.getElem?_eq_getElem hlt]; rfl), rfl, _, rfl⟩
      · exact ⟨rfl, _, rfl⟩
    · rintro σ H' ⟨rfl, c, rfl⟩
      -- far = abs(cell); return [far * int(far >= 10 ** 18), cell % (10 ** 18 + 9) + 1299709 * at, 0]
      refine ⟨_, rfl, _, rfl, ?_⟩
      refine ⟨_, rfl, _, rfl, _, _, rfl, rfl, pow10, _, _, rfl, rfl, .inr ⟨_, rfl, _, _, rfl, rfl, cmul_b, ?_⟩⟩
      refine ⟨_, rfl, _, _, rfl, rfl, pow10, _, _, rfl, rfl, _, _, rfl, rfl, (by show (0 : Int) < 10 ^ (18 : Int).toNat + 9; decide), _, rfl, _, _, rfl, rfl, .inl ⟨by decide, by decide⟩, _, _, rfl, rfl, (by show 3 ≤ sizeLine; decide), fun p hp => ?_⟩
      exact q p _ hp (same_upd hp) (bag_made hk0 hk2)
abbrev sp_law_take (K : PySem.W.Frag) : Sp := spTake
theorem ok_law_take (T : Txt K mg) : FnOk P w K mg base CX0 1 (He.fAd K ("_law_take", none)) T.d_law_take ["_law_bag_here", "_law_size"] (sp_law_take K) := by
  refine T.F_law_take.ok sc_law_take (fun vs H Q E h => ?_) (fun cdv A outer s H vs Q E hr h => ?_)
  · obtain ⟨p, z, n, rfl, _⟩ := take_un h
    rfl
  · obtain ⟨p, z, n, rfl, hB, hz0, hz1, hn, q⟩ := take_un h
    refine ⟨_, PSs.nox (pss_cons (ps_if (pt_cmpR op_gt (pe_ix ix_list (pv 0) pe_int (fun _ _ => rfl)) pe_int (nomark _))
      (pss_cons (ps_set (i := 2) sc_law_take.nd rfl (Or.inl rfl) (pe_op op_mod (pe_ix ix_list (pv 0) pe_int (fun _ _ => rfl)) (pv 1)))
      (pss_cons (ps_asg (pe_op op_fdiv (pe_ix ix_list (pv 0) pe_int (fun _ _ => rfl)) (pv 1)) (pg_sub (pv 0) pe_int set_list))
      (pss_one (ps_ret (pv 2)))))
      pss_nil)
      (pss_cons (ps_set (i := 3) sc_law_take.nd rfl (Or.inl rfl) (pe_tup (pa_cons pe_int (pa_cons pe_int (pa_cons pe_int (pa_cons pe_int (pa_cons pe_int (pa_cons pe_int (pa_cons pe_int (pa_cons pe_int pa_nil))))))))))
      (pss_cons (ps_asg (pe_op op_add (pe_ix ix_list (pv 0) pe_int (fun _ _ => rfl)) pe_int) (pg_sub (pv 0) pe_int set_list))
      (pss_cons (ps_set (i := 4) sc_law_take.nd rfl (Or.inl rfl) (pe_ix ix_list (pv 0) pe_int (fun _ _ => rfl)))
      (pss_cons (ps_set (i := 5) sc_law_take.nd rfl (Or.inl rfl) (pe_op op_add (pe_op op_add (pe_op op_mul (pe_ix ix_list (pv 0) pe_int (fun _ _ => rfl)) (pe_op op_add (pe_op op_mul pe_int (pv 4)) pe_int)) (pe_op op_mul (pe_op op_mul pe_int (pv 4)) (pv 4))) pe_int))
      (pss_cons (ps_set (i := 6) sc_law_take.nd rfl (Or.inl rfl) (pe_op op_mod (pe_op op_powL (pv 5) pe_int) (pe_ix ix_tup (pv 3) (pe_op op_mod (pv 4) pe_int) (fun _ _ => rfl))))
      (pss_one (ps_ret (pe_op op_mod (pe_op op_fdiv (pe_op op_mod (pe_op op_mul (pv 6) (pe_op op_add (pe_op op_fdiv (pv 6) pe_int) pe_int)) (pe_ix ix_tup (pv 3) (pe_op op_mod (pe_op op_add (pv 4) pe_int) pe_int) (fun _ _ => rfl))) pe_int) (pv 1)))))))))), ?_⟩
    obtain ⟨a, b, c, hp, ha, hb, hb1, hc, hc1⟩ := hB.ex
    -- if bag[0] > 0
    refine ⟨_, rfl, p, _, _, _, rfl, rfl, SqL.of hp, at0, _, _, rfl, rfl, _, rfl, ?_⟩
    refine ite2 (fun _ => ?_) (fun _ => ?_)
    · -- digit = bag[0] % size
      refine ⟨_, rfl, p, _, _, _, rfl, rfl, SqL.of hp, at0, _, rfl, _, _, rfl, rfl, hz0, ?_⟩
      -- bag[0] = bag[0] // size
      refine ⟨_, rfl, p, _, _, _, rfl, rfl, SqL.of hp, at0, _, rfl, _, _, rfl, rfl, ⟨hz0, hz1⟩, _, rfl, p, _, _, 0, rfl, rfl, hp, rfl, ?_⟩
      refine ⟨_, rfl, ?_⟩
      refine q (a % z) _ (Int.emod_nonneg _ (by omega)) (Int.emod_lt_of_pos _ hz0) ⟨_, _, _, upd_same, Int.ediv_nonneg ha (by omega), hb, hb1, hc, by omega⟩ (mut_keep rfl)
    · -- primes
      refine ⟨by show 8 ≤ sizeLine; decide, fun t ht => ?_⟩
      generalize hE : upd H t _ = H1
      have k1 := new_at hE
      have s1 := new_same hE ht
      have hp1 := s1 _ _ hp
      have npt : p ≠ t := ne_some hp ht
      -- bag[2] = bag[2] + 1
      refine ⟨_, rfl, p, _, _, _, rfl, rfl, SqL.of hp1, at2, _, _, rfl, rfl, _, rfl, p, _, _, 2, rfl, rfl, hp1, rfl, ?_⟩
      generalize hE2 : upd H1 p _ = H2
      have hp2 : H2 p = some (.lst [.int a, .int b, .int (c + 1)]) := new_at hE2
      have kp2 := mut_keep hE2
      have k2 := kp2 _ _ k1 npt.symm
      have bag2 : Bag (n + 1) H2 p := ⟨_, _, _, hp2, ha, hb, hb1, by omega, by omega⟩
      have kpA : Kp p H H2 := (Kp.of s1).trans kp2
      -- stage, basis
      refine ⟨_, rfl, p, _, _, _, rfl, rfl, SqL.of hp2, at2, ?_⟩
      refine ⟨_, rfl, p, _, _, _, rfl, rfl, SqL.of hp2, at1, _, rfl, _, _, rfl, rfl, .inl ⟨by decide, by decide⟩, _, _, rfl, rfl, _, _, rfl, rfl, .inl ⟨by omega, by omega⟩, _, rfl, _, _, rfl, rfl, .inl ⟨by decide, by decide⟩, _, rfl, _, _, rfl, rfl, .inr ⟨by omega, by omega⟩, _, _, rfl, rfl, _, _, rfl, rfl, ?_⟩
      -- found = basis ** 3 % primes[stage % 8]
      obtain ⟨p1, e1, g1, l1⟩ := prime_at (c + 1)
      refine ⟨_, rfl, _, _, rfl, rfl, ⟨by decide, by decide, basis_small hb hb1 (by omega) (by omega)⟩, _, rfl, _, rfl, _, _, rfl, rfl, (by show (0 : Int) < 8; decide), t, _, _, _, rfl, rfl, SqT.of k2, e1, _, _, rfl, rfl, g1, ?_⟩
      generalize hf : (b * (2 * (c + 1) + 1) + 7919 * (c + 1) * (c + 1) + 29) ^ (3 : Int).toNat % p1 = f
      have f0 : 0 ≤ f := by rw [← hf]; exact Int.emod_nonneg _ (by have : 0 < p1 := g1; omega)
      have f1 : f < 2147483648 := by
        have h1 := Int.emod_lt_of_pos ((b * (2 * (c + 1) + 1) + 7919 * (c + 1) * (c + 1) + 29) ^ (3 : Int).toNat) (show 0 < p1 from g1)
        rw [hf] at h1
        omega
      obtain ⟨p2, e2, g2, l2⟩ := prime_at (c + 1 + 5)
      refine ⟨_, rfl, _, rfl, _, _, rfl, rfl, ⟨by decide, by decide⟩, _, _, rfl, rfl, _, _, rfl, rfl, .inl ⟨by omega, by omega⟩, _, rfl, _, rfl, _, _, rfl, rfl, _, _, rfl, rfl, (by show (0 : Int) < 8; decide), t, _, _, _, rfl, rfl, SqT.of k2, e2, _, _, rfl, rfl, g2, _, _, rfl, rfl, ⟨by decide, by decide⟩, _, rfl, _, _, rfl, rfl, hz0, ?_⟩
      exact q _ _ (Int.emod_nonneg _ (by omega)) (Int.emod_lt_of_pos _ hz0) bag2 kpA

-- SPLIT
/-! ### names drawn -/
def sp_law_name (K : PySem.W.Frag) : Sp := fun vs H Q _ => ∃ (p : Addr) (n : Nat), vs = [.ref p] ∧ Bag n H p ∧ n < 800000000 ∧
  ∀ (x : Str) H', Nm x → Bag (n + 10) H' p → Kp p H H' → Q (.str x) H'
theorem ok_law_name (T : Txt K mg) : FnOk P w K mg base CX0 2 (He.fAd K ("_law_name", none)) T.d_law_name ["_law_bag_here"] (sp_law_name K) := by
  refine T.F_law_name.ok sc_law_name (fun vs H Q E h => ?_) (fun cdv A outer s H vs Q E hr h => ?_)
  · obtain ⟨p, n, rfl, _⟩ := h
    rfl
  · obtain ⟨p, n, rfl, B, hn, q⟩ := h
    refine ⟨_, PSs.nox (pss_cons (ps_set (i := 1) sc_law_name.nd rfl (Or.inr rfl) pe_str)
      (pss_cons (ps_set (i := 2) sc_law_name.nd rfl (Or.inl rfl) (pe_op op_add pe_int (pe_call (ok_law_take T) (hr.mono (by decide)) (by rfl) T.m_law_take T.F_law_take.kp T.b_law_take .nil pass0 (pa_cons (pv 0) (pa_cons (pe_ix ix_list (pe_lst (pa_cons pe_int (pa_cons pe_int pa_nil))) (pe_callTy (T := "int")  call_int1 (by rfl) T.n_int (by decide +kernel) (pa_cons (pe_cmpR op_eq (pe_call (ok_law_take T) (hr.mono (by decide)) (by rfl) T.m_law_take T.F_law_take.kp T.b_law_take .nil pass0 (pa_cons (pv 0) (pa_cons pe_int pa_nil))) pe_int (nomark _)) pa_nil)) (fun _ _ => rfl)) pa_nil)))))
      (pss_one (ps_ret (pe_join pe_str (pe_lc (own := [("_law_spot", 3)]) (by rfl) sc_law_name.nd (pi_range1 (by rfl) T.n_range (pa_cons (pv 2) pa_nil)) (blkOk_by (own := [("_law_spot", 3)]) (N := N_law_name) (sc := defScope s_law_name) (by decide +kernel)) (fun _ _ _ _ _ => (pg_name (i := 3) sc_law_name.nd rfl (Or.inl rfl))) (fun _ _ _ _ _ => pts_nil) (fun _ _ _ _ _ => (pe_ix ix_str (pv 1) (pe_call (ok_law_take T) (hr.mono (by decide)) (by rfl) T.m_law_take T.F_law_take.kp T.b_law_take .nil pass0 (pa_cons (pv 0) (pa_cons pe_int pa_nil))) (fun _ _ => rfl))))))))), ?_⟩
    -- size = 1 + take(bag, [2, 8][int(take(bag, 4) == 0)])
    refine ⟨_, rfl, by show 2 ≤ sizeLine; decide, fun l1 n1 => ?_⟩
    generalize hE1 : upd H l1 _ = H1
    have w1 := new_at hE1
    have s1 := new_same hE1 n1
    have np1 := B.ne n1
    refine ⟨_, rfl, ?_⟩
    refine take_of (z := 4) (B.same s1) (by decide) (by decide) (by omega) fun r2 H2 a2 b2 B2 k2 => ?_
    have ix : ∃ m : Int, 2 ≤ m ∧ m ≤ 8 ∧ atI [V.int 2, V.int 8] (if decide (V.int r2 = V.int 0) = true then 1 else 0) = some (.int m) := by
      cases decide (V.int r2 = V.int 0)
      · exact ⟨2, by decide, by decide, at0⟩
      · exact ⟨8, by decide, by decide, at1⟩
    obtain ⟨m, m0, m1, em⟩ := ix
    refine ⟨rfl, .inr ⟨_, rfl, l1, _, _, _, rfl, rfl, SqL.of (k2 _ _ w1 np1.symm), em, ?_⟩⟩
    refine take_of (z := m) B2 (by omega) (by omega) (by omega) fun r3 H3 a3 b3 B3 k3 => ?_
    have kA : Kp p H H3 := ((Kp.of s1).trans k2).trans k3
    refine ⟨_, _, rfl, rfl, ?_⟩
    -- "".join([..])
    refine ⟨⟨_, rfl⟩, _, rfl, _, rfl, by omega, by omega, fun D nD => ?_⟩
    have npD := B3.ne nD
    refine lc_range (lo := 0) (n := (1 + r3).toNat) (fun i H' => Bag (n + 2 + i) H' p ∧ Kp p H H' ∧ ∃ ys : List Str, ys.length = i ∧ (∀ y ∈ ys, ∃ c, y = ⟨#[c]⟩ ∧ 97 ≤ c ∧ c ≤ 122) ∧ H' D = some (.lst (ys.map V.str)))
      ⟨B3.same (same_upd nD), kA.same (same_upd nD), [], rfl, (fun y hy => nomatch hy), upd_same⟩ ?_ ?_
    · rintro i H4 hi ⟨B4, k4, ys, hl, hy, w4⟩
      refine ⟨rfl, yes_of (iteT ?_)⟩
      refine ⟨_, rfl, _, rfl, ?_⟩
      refine take_of (z := 26) B4 (by decide) (by decide) (by omega) fun r5 H5 a5 b5 B5 k5 => ?_
      obtain ⟨c, ec, c0, c1⟩ := letter_at a5 b5
      have w5 := k5 _ _ w4 npD.symm
      refine ⟨_, _, c, rfl, rfl, by decide +kernel, ec, _, w5, by rw [List.length_map]; exact small1000 (by omega), ?_⟩
      have nDH : H D = none := kA.free nD npD.symm
      refine ⟨B5.keep (mut_keep rfl) npD, (k4.trans k5).own (mut_keep rfl) nDH, ys ++ [⟨#[c]⟩], by rw [List.length_append, hl]; rfl, fun y hyy => ?_, by rw [upd_same, List.map_append]; rfl⟩
      rcases List.mem_append.mp hyy with hyy | hyy
      · exact hy y hyy
      · rw [List.mem_singleton.mp hyy]
        exact ⟨c, rfl, c0, c1⟩
    · rintro H4 ⟨B4, k4, ys, hl, hy, w4⟩
      have hsum : (ys.map (·.length)).sum ≤ 8 := by
        have : ∀ ys : List Str, (∀ y ∈ ys, ∃ c, y = ⟨#[c]⟩ ∧ 97 ≤ c ∧ c ≤ 122) → (ys.map (·.length)).sum = ys.length := by
          intro ys
          induction ys with
          | nil => exact fun _ => rfl
          | cons y ys ih =>
            intro h
            obtain ⟨c, rfl, _⟩ := h y (List.mem_cons_self ..)
            rw [List.map_cons, List.sum_cons, ih fun z hz => h z (List.mem_cons_of_mem _ hz), List.length_cons]
            show 1 + ys.length = ys.length + 1
            omega
        rw [this ys hy]
        omega
      refine ⟨_, D, ys, rfl, rfl, .inl (SqL.of w4), by rw [show (Str.ofString "").length = 0 from by decide +kernel]; omega, ?_⟩
      exact q _ H4 (join_one hy (by omega) (by omega)) (B4.le (by omega)) k4
def sp_law_names (K : PySem.W.Frag) : Sp := fun vs H Q _ => ∃ (p : Addr) (k n : Nat), vs = [.ref p, .int k] ∧ Bag n H p ∧ n < 700000000 ∧ k ≤ 20 ∧
  ∀ (xs : List Str) (l : Addr) H', xs.length = k → xs.Nodup → (∀ x ∈ xs, Nm x) → H l = none → H' l = some (.lst (xs.map V.str)) → Bag (n + 10 * k) H' p → Kp p H H' → Q (.ref l) H'
theorem ok_law_names (T : Txt K mg) : FnOk P w K mg base CX0 3 (He.fAd K ("_law_names", none)) T.d_law_names ["_law_bag_here", "_law_size"] (sp_law_names K) := by
  refine T.F_law_names.ok sc_law_names (fun vs H Q E h => ?_) (fun cdv A outer s H vs Q E hr h => ?_)
  · obtain ⟨p, k, n, rfl, _⟩ := h
    rfl
  · obtain ⟨p, k, n, rfl, B, hn, hk, q⟩ := h
    refine ⟨_, PSs.nox (pss_cons (ps_set (i := 2) sc_law_names.nd rfl (Or.inr rfl) (pe_lst pa_nil))
      (pss_cons (ps_for PassesOwn.never rfl (pi_range1 (by rfl) T.n_range (pa_cons (pv 1) pa_nil)) (pg_name (i := 3) sc_law_names.nd rfl (Or.inl rfl))
      (pss_cons (ps_set (i := 4) sc_law_names.nd rfl (Or.inr rfl) (pe_call (ok_law_name T) (hr.mono (by decide)) (by rfl) T.m_law_name T.F_law_name.kp T.b_law_name .nil pass0 (pa_cons (pv 0) pa_nil)))
      (pss_mid (ps_if (pt_cmpR op_in_seq (pv 4) (pv 2) (by rfl))
      (pss_one (ps_set (i := 4) sc_law_names.nd rfl (Or.inr rfl) (pe_ix ix_list (pe_lc (own := [("_law_one", 5)]) (by rfl) sc_law_names.nd (pi_str pe_str) (blkOk_by (own := [("_law_one", 5)]) (N := N_law_names) (sc := defScope s_law_names) (by decide +kernel)) (fun _ _ _ _ _ => (pg_name (i := 5) sc_law_names.nd rfl (Or.inl rfl))) (fun _ _ _ _ _ => (pts_one (pt_cmpR (r := rIn K true) op_notIn_seq (pe_op op_add_str (pv 5) (pe_slice sl_str (pv 4) (po_some pe_int) po_none)) (pv 2) (by rfl)))) (fun _ _ _ _ _ => (pe_op op_add_str (pv 5) (pe_slice sl_str (pv 4) (po_some pe_int) po_none)))) pe_int (fun _ _ => rfl))))
      pss_nil)
      (pss_one (ps_expr (pe_bm PySem.F.plainAttrs_list PySem.F.slot_list_append PySem.F.type_list_append mt_append (pv 2) (pa_cons (pv 4) pa_nil)))))))
      (pss_one (ps_ret (pv 2))))), ?_⟩
    refine ⟨by show 0 ≤ sizeLine; decide, fun l nl => ?_⟩
    generalize hE1 : upd H l _ = H1
    have w1 := new_at hE1
    have s1 := new_same hE1 nl
    have npl := B.ne nl
    refine ⟨_, rfl, _, rfl, by omega, by omega, for_range (lo := 0) (n := (k : Int).toNat) (fun i σ H' => Bag (n + 10 * i) H' p ∧ Kp p H H' ∧ ∃ (xs : List Str) (y1 y2 y3 : Option V), xs.length = i ∧ xs.Nodup ∧ (∀ x ∈ xs, Nm x) ∧ H' l = some (.lst (xs.map V.str)) ∧ σ = [some (.ref p), some (.int k), some (.ref l), y1, y2, y3])
      ⟨B.same s1, Kp.of s1, [], none, none, none, rfl, List.nodup_nil, (fun x hx => nomatch hx), w1, rfl⟩ ?_ ?_⟩
    · rintro i σ H2 hi ⟨B2, k2, xs, y1, y2, y3, hl, hnd, hnm, w2, rfl⟩
      -- word = name(bag)
      refine ⟨_, rfl, p, n + 10 * i, rfl, B2, by omega, fun w H3 hw B3 k3 => ?_⟩
      have w3 := k3 _ _ w2 npl.symm
      -- if word in found
      refine ⟨fun σ H' => Same H3 H' ∧ ∃ (x : Str) (y3 : Option V), Nm x ∧ x ∉ xs ∧ σ = [some (.ref p), some (.int k), some (.ref l), some (.int (0 + (i : Int))), some (.str x), y3], ?_, ?_⟩
      · refine ⟨_, rfl, _, rfl, l, _, rfl, .inl (SqL.of w3), rfl, strs_flat xs, _, rfl, ?_⟩
        rw [inV_str]
        refine ite2 (fun hc => ?_) (fun hc => ?_)
        · refine ⟨_, rfl, fun D nD => ?_⟩
          refine lc_it (walk_str (z := lettersS)) (fun j H' => Same H3 H' ∧ H' D = some (.lst ((((List.range j).map fun i => (⟨#[97 + i]⟩ : Str) ++ tailS w).filter fun x => decide (x ∉ xs)).map V.str))) ⟨same_upd nD, upd_same⟩ (fun _ _ _ _ => trivial) ?_ ?_
          · rintro j x H4 H4' hj ⟨s4, w4⟩ ⟨rfl, c, hc', rfl⟩
            obtain ⟨hj26, rfl⟩ := letters_get hc'
            refine ⟨rfl, ?_⟩
            have hlen : (tailS w).length ≤ 8 := Nat.le_trans (cutS_length _ _ _) hw.2.2
            have ltot : ((⟨#[97 + j]⟩ : Str).length + (tailS w).length) ≤ sizeLine := by
              have h1 : (⟨#[97 + j]⟩ : Str).length = 1 := rfl
              rw [h1]
              exact Nat.le_of_lt (small1000 (by omega))
            refine ⟨_, rfl, _, rfl, _, rfl, w, rfl, Nat.le_trans hw.2.2 (by decide), _, _, rfl, rfl, ltot, _, rfl, l, _, rfl, .inl (SqL.of (s4 _ _ w3)), rfl, strs_flat xs, _, rfl, ?_⟩
            rw [range_map_succ', List.filter_append, List.map_append]
            show if (if true = true then !inV (.str ((⟨#[97 + j]⟩ : Str) ++ tailS w)) (xs.map V.str) else _) = true then _ else _
            rw [if_pos rfl, inV_str]
            by_cases hin : (⟨#[97 + j]⟩ : Str) ++ tailS w ∈ xs
            · rw [decide_eq_true hin]
              refine iteF ⟨s4, ?_⟩
              rw [List.filter_cons_of_neg (p := fun x => decide (x ∉ xs)) (by rw [decide_eq_false (fun z => z hin)]; exact Bool.false_ne_true)]
              rw [List.filter_nil, List.map_nil, List.append_nil]
              exact w4
            · rw [decide_eq_false hin]
              refine iteT ?_
              refine ⟨_, rfl, _, rfl, _, rfl, w, rfl, Nat.le_trans hw.2.2 (by decide), _, _, rfl, rfl, ltot, _, w4, ?_, Same.own (q := D) (H1 := H4') s4 (mut_keep rfl) nD, ?_⟩
              · rw [List.length_map]
                refine Nat.lt_of_le_of_lt (List.length_filter_le _ _) ?_
                rw [List.length_map, List.length_range]
                exact small1000 (by omega)
              · rw [upd_same, List.filter_cons_of_pos (p := fun x => decide (x ∉ xs)) (decide_eq_true hin)]
                rfl
          · rintro H4 ⟨s4, w4⟩
            rw [letters_size] at w4
            obtain ⟨x, hxm, hxf⟩ := free_in (cands_nodup (tailS w)) (ds := xs) (by unfold cands; rw [List.length_map, List.length_range]; omega)
            generalize hF : ((List.range 26).map fun i => (⟨#[97 + i]⟩ : Str) ++ tailS w).filter (fun x => decide (x ∉ xs)) = fs at w4
            have hmem : ∀ z ∈ fs, Nm z ∧ z ∉ xs := fun z hz => by
              rw [← hF] at hz
              obtain ⟨h1, h2⟩ := List.mem_filter.mp hz
              obtain ⟨i, hi, rfl⟩ := List.mem_map.mp h1
              exact ⟨cand_nm hw (List.mem_range.mp hi), of_decide_eq_true h2⟩
            have hx : x ∈ fs := by
              rw [← hF]
              exact List.mem_filter.mpr ⟨hxm, decide_eq_true hxf⟩
            cases fs with
            | nil => cases hx
            | cons z zs =>
              refine ⟨D, _, _, _, rfl, rfl, SqL.of w4, at0, s4, z, _, (hmem z (List.mem_cons_self ..)).1, (hmem z (List.mem_cons_self ..)).2, rfl⟩
        · refine ⟨Same.refl H3, w, _, hw, fun z => hc (decide_eq_true z), rfl⟩
      · rintro σ H4 ⟨s4, x, y3, hx, hxn, rfl⟩
        have w4 := s4 _ _ w3
        refine ⟨_, rfl, .inl ⟨rfl, _, SqL.of w4⟩, _, rfl, l, _, _, rfl, rfl, w4, by rw [List.length_map]; exact small1000 (by omega), ?_⟩
        have B4 := B3.same s4
        refine ⟨(B4.keep (mut_keep rfl) npl).le (by omega), ((k2.trans k3).same s4).own (mut_keep rfl) nl, xs ++ [x], _, _, _, by rw [List.length_append, hl]; rfl, ?_, fun z hz => ?_, by rw [upd_same, List.map_append]; rfl, rfl⟩
        · rw [List.nodup_append]
          exact ⟨hnd, List.nodup_cons.mpr ⟨by simp, List.nodup_nil⟩, fun a ha b hb e => hxn (by rw [List.mem_singleton.mp hb] at e; rw [← e]; exact ha)⟩
        · rcases List.mem_append.mp hz with hz | hz
          · exact hnm z hz
          · rw [List.mem_singleton.mp hz]
            exact hx
    · rintro σ H2 ⟨B2, k2, xs, y1, y2, y3, hl, hnd, hnm, w2, rfl⟩
      exact ⟨_, rfl, q xs l H2 (by omega) hnd hnm nl w2 (B2.le (by omega)) k2⟩

-- SPLIT
/-! ### some of a pool -/
def sp_law_some (K : PySem.W.Frag) : Sp := fun vs H Q _ => ∃ (p l : Addr) (k n : Nat) (xs : List Str), vs = [.ref p, .ref l, .int k] ∧ Bag n H p ∧ n < 700000000 ∧ k ≤ 20 ∧ SqL K H l (xs.map V.str) ∧ l ≠ p ∧ xs.Nodup ∧ xs.length ≤ 100 ∧ (∀ x ∈ xs, Nm x) ∧
  ∀ (ys : List Str) (t : Addr) H', ys.Nodup → (∀ y ∈ ys, y ∈ xs) → ys.length ≤ k → H t = none → H' t = some (.tup (ys.map V.str)) → Bag (n + 1 + k) H' p → Kp p H H' → Q (.ref t) H'
theorem ok_law_some (T : Txt K mg) : FnOk P w K mg base CX0 2 (He.fAd K ("_law_some", none)) T.d_law_some ["_law_bag_here", "_law_pool", "_law_most"] (sp_law_some K) := by
  refine T.F_law_some.ok sc_law_some (fun vs H Q E h => ?_) (fun cdv A outer s H vs Q E hr h => ?_)
  · obtain ⟨p, l, k, n, xs, rfl, _⟩ := h
    rfl
  · obtain ⟨p, l, k, n, xs, rfl, B, hn, hk, hL, nlp, hnd, hxl, hnm, q⟩ := h
    refine ⟨_, PSs.nox (pss_cons (ps_set (i := 3) sc_law_some.nd rfl (Or.inl rfl) (pe_callTy (T := "list")  call_list_of (by rfl) T.n_list (by decide +kernel) (pa_cons (pv 1) pa_nil)))
      (pss_cons (ps_set (i := 4) sc_law_some.nd rfl (Or.inl rfl) (pe_lst pa_nil))
      (pss_cons (ps_for PassesOwn.never rfl (pi_range1 (by rfl) T.n_range (pa_cons (pe_call (ok_law_take T) (hr.mono (by decide)) (by rfl) T.m_law_take T.F_law_take.kp T.b_law_take .nil pass0 (pa_cons (pv 0) (pa_cons (pe_op op_add (pv 2) pe_int) pa_nil))) pa_nil)) (pg_name (i := 5) sc_law_some.nd rfl (Or.inl rfl))
      (pss_one (ps_if (pt_cmpR (op_neD hr.units) (pv 3) (pe_lst pa_nil) (nomark _))
      (pss_one (ps_expr (pe_bm PySem.F.plainAttrs_list PySem.F.slot_list_append PySem.F.type_list_append mt_append (pv 4) (pa_cons (pe_bm PySem.F.plainAttrs_list PySem.F.slot_list_pop PySem.F.type_list_pop mt_popAt (pv 3) (pa_cons (pe_call (ok_law_take T) (hr.mono (by decide)) (by rfl) T.m_law_take T.F_law_take.kp T.b_law_take .nil pass0 (pa_cons (pv 0) (pa_cons (pe_callB (id := "len")  call_len_seq (by rfl) T.n_len (by decide +kernel) (pa_cons (pv 3) pa_nil)) pa_nil))) pa_nil)) pa_nil))))
      pss_nil)))
      (pss_one (ps_ret (pe_callTy (T := "tuple")  call_tuple_of (by rfl) T.n_tuple (by decide +kernel) (pa_cons (pv 4) pa_nil))))))), ?_⟩
    -- left = list(pool); found = []
    refine ⟨_, rfl, l, _, rfl, .inl hL, fun a na => ?_⟩
    generalize hE1 : upd H a _ = H1
    have w1 := new_at hE1
    have s1 := new_same hE1 na
    have npa := B.ne na
    refine ⟨by show 0 ≤ sizeLine; decide, fun b nb => ?_⟩
    generalize hE2 : upd H1 b _ = H2
    have w2 := new_at hE2
    have s2 := new_same hE2 nb
    have npb := (B.same s1).ne nb
    have nab : a ≠ b := ne_some w1 nb
    have nbH : H b = none := s1.free nb
    -- range(take(bag, most + 1))
    refine ⟨_, rfl, _, rfl, _, _, rfl, rfl, ?_⟩
    refine take_of (z := (k : Int) + 1) ((B.same s1).same s2) (by omega) (by omega) (by omega) fun r3 H3 a3 b3 B3 k3 => ?_
    have kA : Kp p H H3 := (Kp.of (s1.trans s2)).trans k3
    refine ⟨r3, rfl, by omega, by omega, for_range (lo := 0) (n := r3.toNat) (fun i σ H' => Bag (n + 1 + i) H' p ∧ Kp p H H' ∧ ∃ (ls fs : List Str) (y : Option V), H' a = some (.lst (ls.map V.str)) ∧ H' b = some (.lst (fs.map V.str)) ∧ (fs ++ ls).Nodup ∧ (∀ x ∈ fs ++ ls, x ∈ xs) ∧ fs.length ≤ i ∧ ls.length ≤ 100 ∧
        σ = [some (.ref p), some (.ref l), some (.int k), some (.ref a), some (.ref b), y])
      ⟨B3, kA, xs, [], none, k3 _ _ (s2 _ _ w1) npa.symm, k3 _ _ w2 npb.symm, hnd, fun x hx => hx, Nat.le_refl _, hxl, rfl⟩ ?_ ?_⟩
    · rintro i σ H4 hi ⟨B4, k4, ls, fs, y, wa, wb, hnd4, hsub, hfl, hll, rfl⟩
      have nmL : ∀ x ∈ ls, Nm x := fun x hx => hnm x (hsub x (List.mem_append_right _ hx))
      -- if left != []
      refine ⟨_, rfl, by show 0 ≤ sizeLine; decide, fun l5 n5 => ?_⟩
      generalize hE5 : upd H4 l5 _ = H5
      have w5 : H5 l5 = some (.lst (([] : List Str).map V.str)) := new_at hE5
      have s5 := new_same hE5 n5
      have wa5 := s5 _ _ wa
      have wb5 := s5 _ _ wb
      refine neD_strs (SqL.of wa5) (SqL.of w5) (fun x hx => (nmL x hx).ok) (fun x hx => nomatch hx) ⟨_, rfl, ?_⟩
      by_cases hls : ls = []
      · rw [decide_eq_true hls]
        refine iteF ?_
        exact ⟨(B4.same s5).le (by omega), k4.same s5, ls, fs, _, wa5, wb5, hnd4, hsub, by omega, hll, rfl⟩
      · rw [decide_eq_false hls]
        refine iteT ?_
        have hpos : 0 < ls.length := List.length_pos_iff.mpr hls
        -- found.append(left.pop(take(bag, len(left))))
        refine ⟨_, rfl, .inl ⟨rfl, _, SqL.of wb5⟩, _, rfl, .inl ⟨rfl, _, SqL.of wa5⟩, _, rfl, _, rfl, a, _, rfl, .inl (SqL.of wa5), ?_⟩
        refine take_of (z := ((ls.map V.str).length : Int)) (B4.same s5) (by rw [List.length_map]; omega) (by rw [List.length_map]; omega) (by omega) fun r6 H6 a6 b6 B6 k6 => ?_
        rw [List.length_map] at b6
        have hr : r6.toNat < ls.length := by omega
        have wa6 := k6 _ _ wa5 npa.symm
        have wb6 := k6 _ _ wb5 npb.symm
        refine ⟨a, _, r6, r6.toNat, .str ls[r6.toNat], rfl, rfl, wa6, by omega, by omega, by rw [List.length_map]; exact seq_ix a6 b6, by rw [List.getElem?_map, List.getElem?_eq_getElem hr]; rfl, ?_⟩
        generalize hE7 : upd H6 a _ = H7
        have wa7 := new_at hE7
        have m7 := mut_keep hE7
        have wb7 := m7 _ _ wb6 nab.symm
        refine ⟨b, _, _, rfl, rfl, wb7, by rw [List.length_map]; exact small1000 (by omega), ?_⟩
        generalize hE8 : upd H7 b _ = H8
        have wb8 := new_at hE8
        have m8 := mut_keep hE8
        have hperm : (fs ++ [ls[r6.toNat]] ++ ls.eraseIdx r6.toNat).Perm (fs ++ ls) := by
          rw [List.append_assoc]
          exact List.Perm.append_left fs (perm_pick ls r6.toNat hr)
        refine ⟨((B6.keep m7 npa).keep m8 npb).le (by omega), (((k4.same s5).trans k6).own m7 na).own m8 nbH, ls.eraseIdx r6.toNat, fs ++ [ls[r6.toNat]], _, ?_, by rw [List.map_append]; exact wb8, hperm.nodup_iff.mpr hnd4, fun x hx => hsub x (hperm.mem_iff.mp hx), by rw [List.length_append]; exact Nat.succ_le_succ hfl, Nat.le_trans (List.length_eraseIdx_le ..) hll, rfl⟩
        have wa8 := m8 _ _ wa7 nab
        rw [map_pick] at wa8
        exact wa8
    · rintro σ H4 ⟨B4, k4, ls, fs, y, wa, wb, hnd4, hsub, hfl, hll, rfl⟩
      refine ⟨_, rfl, b, _, rfl, .inl ⟨SqL.of wb, fun t nt => ?_⟩⟩
      have ntp := (B4.ne nt).symm
      exact q fs t _ (List.nodup_append.mp hnd4).1 (fun y hy => hsub y (List.mem_append_left _ hy)) (by omega) (k4.free nt ntp) upd_same ((B4.same (same_upd nt)).le (by omega)) (k4.same (same_upd nt))

/-! ### a rule, its parts -/
def sp_law_rule_parts (K : PySem.W.Frag) : Sp := fun vs H Q _ => ∃ (p : Addr) (n : Nat), vs = [.ref p] ∧ Bag n H p ∧ n < 800000000 ∧
  ∀ (f m t b s : Int) (v : Addr) H', Five f m t b s → H v = none → H' v = some (.tup [.int f, .int m, .int t, .int b, .int s]) → Bag (n + 10) H' p → Kp p H H' → Q (.ref v) H'
theorem ok_law_rule_parts (T : Txt K mg) : FnOk P w K mg base CX0 2 (He.fAd K ("_law_rule_parts", none)) T.d_law_rule_parts ["_law_bag_here"] (sp_law_rule_parts K) := by
  refine T.F_law_rule_parts.ok sc_law_rule_parts (fun vs H Q E h => ?_) (fun cdv A outer s H vs Q E hr h => ?_)
  · obtain ⟨p, n, rfl, _⟩ := h
    rfl
  · obtain ⟨p, n, rfl, B, hn, q⟩ := h
    refine ⟨_, PSs.nox (pss_cons (ps_set (i := 1) sc_law_rule_parts.nd rfl (Or.inl rfl) (pe_lst (pa_cons (pe_op op_add pe_int (pe_call (ok_law_take T) (hr.mono (by decide)) (by rfl) T.m_law_take T.F_law_take.kp T.b_law_take .nil pass0 (pa_cons (pv 0) (pa_cons (pe_ix ix_list (pe_lst (pa_cons pe_int (pa_cons pe_int pa_nil))) (pe_call (ok_law_take T) (hr.mono (by decide)) (by rfl) T.m_law_take T.F_law_take.kp T.b_law_take .nil pass0 (pa_cons (pv 0) (pa_cons pe_int pa_nil))) (fun _ _ => rfl)) pa_nil)))) (pa_cons (pe_op op_add pe_int (pe_call (ok_law_take T) (hr.mono (by decide)) (by rfl) T.m_law_take T.F_law_take.kp T.b_law_take .nil pass0 (pa_cons (pv 0) (pa_cons (pe_ix ix_list (pe_lst (pa_cons pe_int (pa_cons pe_int pa_nil))) (pe_call (ok_law_take T) (hr.mono (by decide)) (by rfl) T.m_law_take T.F_law_take.kp T.b_law_take .nil pass0 (pa_cons (pv 0) (pa_cons pe_int pa_nil))) (fun _ _ => rfl)) pa_nil)))) pa_nil))))
      (pss_cons (ps_expr (pe_bm PySem.F.plainAttrs_list PySem.F.slot_list_append PySem.F.type_list_append mt_append (pv 1) (pa_cons (pe_op op_add pe_int (pe_call (ok_law_take T) (hr.mono (by decide)) (by rfl) T.m_law_take T.F_law_take.kp T.b_law_take .nil pass0 (pa_cons (pv 0) (pa_cons (pe_ix ix_list (pe_lst (pa_cons pe_int (pa_cons pe_int (pa_cons (pe_op op_powL pe_int pe_int) pa_nil)))) (pe_call (ok_law_take T) (hr.mono (by decide)) (by rfl) T.m_law_take T.F_law_take.kp T.b_law_take .nil pass0 (pa_cons (pv 0) (pa_cons pe_int pa_nil))) (fun _ _ => rfl)) pa_nil)))) pa_nil)))
      (pss_cons (ps_expr (pe_bm PySem.F.plainAttrs_list PySem.F.slot_list_append PySem.F.type_list_append mt_append (pv 1) (pa_cons (pe_call (ok_law_take T) (hr.mono (by decide)) (by rfl) T.m_law_take T.F_law_take.kp T.b_law_take .nil pass0 (pa_cons (pv 0) (pa_cons (pe_ix ix_list (pe_lst (pa_cons pe_int (pa_cons pe_int pa_nil))) (pe_call (ok_law_take T) (hr.mono (by decide)) (by rfl) T.m_law_take T.F_law_take.kp T.b_law_take .nil pass0 (pa_cons (pv 0) (pa_cons pe_int pa_nil))) (fun _ _ => rfl)) pa_nil))) pa_nil)))
      (pss_one (ps_ret (pe_callTy (T := "tuple")  call_tuple_of (by rfl) T.n_tuple (by decide +kernel) (pa_cons (pe_op op_cat (pv 1) (pe_lst (pa_cons (pe_call (ok_law_take T) (hr.mono (by decide)) (by rfl) T.m_law_take T.F_law_take.kp T.b_law_take .nil pass0 (pa_cons (pv 0) (pa_cons (pe_ix ix_list (pe_lst (pa_cons pe_int (pa_cons pe_int (pa_cons (pe_op op_add (pe_op op_powL pe_int pe_int) pe_int) pa_nil)))) (pe_call (ok_law_take T) (hr.mono (by decide)) (by rfl) T.m_law_take T.F_law_take.kp T.b_law_take .nil pass0 (pa_cons (pv 0) (pa_cons pe_int pa_nil))) (fun _ _ => rfl)) pa_nil))) pa_nil))) pa_nil))))))), ?_⟩
    refine ⟨_, rfl, by show 2 ≤ sizeLine; decide, fun l1 n1 => ⟨_, rfl, ?_⟩⟩
    refine take_menu (zs := [3, 1000]) B (by omega) n1 rfl (by decide) (by decide) (by decide) fun z1 r1 H1 hz1 a1 b1 B1 k1 => ?_
    refine ⟨_, _, rfl, rfl, _, rfl, by show 2 ≤ sizeLine; decide, fun l2 n2 => ⟨_, rfl, ?_⟩⟩
    refine take_menu (zs := [3, 10]) B1 (by omega) n2 rfl (by decide) (by decide) (by decide) fun z2 r2 H2 hz2 a2 b2 B2 k2 => ?_
    have k12 := k1.trans k2
    refine ⟨_, _, rfl, rfl, by show 2 ≤ sizeLine; decide, fun some n3 => ?_⟩
    have npS := B2.ne n3
    have n3' := k12.free n3 npS.symm
    generalize hE : upd H2 some _ = H3
    have w3 := new_at hE
    have s3 := new_same hE n3
    have k13 := k12.same s3
    -- append top
    refine ⟨_, rfl, .inl ⟨rfl, _, SqL.of w3⟩, _, rfl, _, _, rfl, rfl, pow10, by show 3 ≤ sizeLine; decide, fun l4 n4 => ⟨_, rfl, ?_⟩⟩
    refine take_menu (zs := [20, 1000, 10 ^ (6 : Int).toNat]) (B2.same s3) (by omega) n4 rfl (by decide) (by decide) (by decide) fun z3 r3 H4 hz3 a3 b3 B4 k4 => ?_
    have w4 := k4 _ _ w3 npS.symm
    refine ⟨_, _, rfl, rfl, some, _, _, rfl, rfl, w4, by show 2 < sizeLine; decide, ?_⟩
    generalize hE5 : upd H4 some _ = H5
    have w5 := new_at hE5
    have m5 := mut_keep hE5
    have B5 := B4.keep m5 npS
    have k15 := (k13.trans k4).own m5 n3'
    -- append burst
    refine ⟨_, rfl, .inl ⟨rfl, _, SqL.of w5⟩, _, rfl, by show 2 ≤ sizeLine; decide, fun l6 n6 => ⟨_, rfl, ?_⟩⟩
    refine take_menu (zs := [4, 21]) B5 (by omega) n6 rfl (by decide) (by decide) (by decide) fun z4 r4 H6 hz4 a4 b4 B6 k6 => ?_
    have w6 := k6 _ _ w5 npS.symm
    refine ⟨some, _, _, rfl, rfl, w6, by show 3 < sizeLine; decide, ?_⟩
    generalize hE7 : upd H6 some _ = H7
    have w7 := new_at hE7
    have m7 := mut_keep hE7
    have B7 := B6.keep m7 npS
    have k17 := (k15.trans k6).own m7 n3'
    -- tuple(some + [span])
    refine ⟨_, rfl, _, rfl, _, _, rfl, rfl, pow10, _, _, rfl, rfl, by show 3 ≤ sizeLine; decide, fun l8 n8 => ⟨_, rfl, ?_⟩⟩
    refine take_menu (zs := [30, 1000, 10 ^ (6 : Int).toNat + 1]) B7 (by omega) n8 rfl (by decide) (by decide) (by decide) fun z5 r5 H8 hz5 a5 b5 B8 k8 => ?_
    have w8 := k8 _ _ w7 npS.symm
    refine ⟨by show 1 ≤ sizeLine; decide, fun l9 n9 => ?_⟩
    generalize hE9 : upd H8 l9 _ = H9
    have w9 := new_at hE9
    have s9 := new_same hE9 n9
    refine ⟨some, l9, _, _, rfl, rfl, s9 _ _ w8, w9, by show 5 ≤ sizeLine; decide, fun l10 n10 => ?_⟩
    generalize hE10 : upd H9 l10 _ = H10
    have w10 := new_at hE10
    have s10 := new_same hE10 n10
    refine ⟨l10, _, rfl, .inl ⟨SqL.of w10, fun v nv => ?_⟩⟩
    generalize hE11 : upd H10 v _ = H11
    have w11 := new_at hE11
    have s11 := new_same hE11 nv
    have s8 : Same H8 H11 := (s9.trans s10).trans s11
    have k18 : Kp p H H11 := (k17.trans k8).same s8
    have npv : v ≠ p := fun e => by
      rw [e] at nv
      obtain ⟨o, ho⟩ := (B8.same (s9.trans s10)).some
      rw [ho] at nv
      cases nv
    refine q (1 + r1) (1 + r2) (1 + r3) r4 r5 v H11 ⟨?_, ?_, ?_, ?_, ?_, ?_, ?_, ?_, ?_, ?_⟩ (k17.trans k8 |>.same (s9.trans s10) |>.free nv npv) w11 (B8.same s8) k18
    all_goals (have e6 : (10 : Int) ^ (6 : Int).toNat = 1000000 := by decide
               simp only [List.mem_cons, List.not_mem_nil, or_false, e6] at hz1 hz2 hz3 hz4 hz5; omega)

/-! ### the rule itself -/
abbrev rFs (f m t b s : Int) : List (Str × V) := [("first", .int f), ("times", .int m), ("top", .int t), ("burst", .int b), ("span", .int s)]
/-- a rule stands at a -/
def RuleAt (K : PySem.W.Frag) (H : Hp) (a : Addr) (f m t b s : Int) : Prop := ∃ dx, H a = some (.ins (He.ga K "Rule") dx (rFs f m t b s))
theorem RuleAt.same {H H' : Hp} {a : Addr} {f m t b s : Int} (h : RuleAt K H a f m t b s) (e : Same H H') : RuleAt K H' a f m t b s := by
  obtain ⟨dx, h⟩ := h
  exact ⟨dx, e _ _ h⟩
theorem RuleAt.keep {H H' : Hp} {a p : Addr} {f m t b s : Int} (h : RuleAt K H a f m t b s) (e : Kp p H H') (n : a ≠ p) : RuleAt K H' a f m t b s := by
  obtain ⟨dx, h⟩ := h
  exact ⟨dx, e _ _ h n⟩
def sp_Rule_init (K : PySem.W.Frag) : Sp := fun vs H Q _ => ∃ (p dx : Addr) (f m t b s : Int), vs = [.ref p, .int f, .int m, .int t, .int b, .int s] ∧ H p = some (.ins (He.ga K "Rule") dx []) ∧
  ∀ H', H' p = some (.ins (He.ga K "Rule") dx (rFs f m t b s)) → Kp p H H' → Q .non H'
theorem ok_Rule_init (T : Txt K mg) : FnOk P w K mg base CX0 1 (He.fAd K ("Rule", some "__init__")) T.d_Rule_init ["self", "first", "times", "top", "burst", "span"] (sp_Rule_init K) := by
  refine T.F_Rule_init.ok sc_Rule_init (fun vs H Q E h => ?_) (fun cdv A outer s H vs Q E hr h => ?_)
  · obtain ⟨p, dx, f, m, t, b, s, rfl, _⟩ := h
    rfl
  · obtain ⟨p, dx, f, m, t, b, s, rfl, hp, q⟩ := h
    refine ⟨_, PSs.nox (pss_cons (ps_fld (pv 0) (pv 1) rfl)
      (pss_cons (ps_fld (pv 0) (pv 2) rfl)
      (pss_cons (ps_fld (pv 0) (pv 3) rfl)
      (pss_cons (ps_fld (pv 0) (pv 4) rfl)
      (pss_one (ps_fld (pv 0) (pv 5) rfl)))))), ?_⟩
    refine ⟨_, rfl, _, rfl, p, _, dx, [], rfl, hp, T.cl_Rule, T.na_Rule_first, (by show 0 < 1000; decide), ?_⟩
    refine ⟨_, rfl, _, rfl, p, _, dx, _, rfl, upd_same, T.cl_Rule, T.na_Rule_times, (by show 1 < 1000; decide), ?_⟩
    refine ⟨_, rfl, _, rfl, p, _, dx, _, rfl, upd_same, T.cl_Rule, T.na_Rule_top, (by show 2 < 1000; decide), ?_⟩
    refine ⟨_, rfl, _, rfl, p, _, dx, _, rfl, upd_same, T.cl_Rule, T.na_Rule_burst, (by show 3 < 1000; decide), ?_⟩
    refine ⟨_, rfl, _, rfl, p, _, dx, _, rfl, upd_same, T.cl_Rule, T.na_Rule_span, (by show 4 < 1000; decide), ?_⟩
    refine q _ upd_same fun c o h n => ?_
    rw [upd_ne n, upd_ne n, upd_ne n, upd_ne n, upd_ne n]
    exact h

def sp_law_rule (K : PySem.W.Frag) : Sp := fun vs H Q _ => ∃ (v : Addr) (f m t b s : Int), vs = [.ref v] ∧ SqT K H v [.int f, .int m, .int t, .int b, .int s] ∧
  ∀ a H', H a = none → Same H H' → RuleAt K H' a f m t b s → Q (.ref a) H'
theorem ok_law_rule (T : Txt K mg) : FnOk P w K mg base CX0 3 (He.fAd K ("_law_rule", none)) T.d_law_rule ["_law_five"] (sp_law_rule K) := by
  refine T.F_law_rule.ok sc_law_rule (fun vs H Q E h => ?_) (fun cdv A outer s H vs Q E hr h => ?_)
  · obtain ⟨v, f, m, t, b, s, rfl, _⟩ := h
    rfl
  · obtain ⟨v, f, m, t, b, s, rfl, hv, q⟩ := h
    refine ⟨_, PSs.nox (pss_one (ps_ret (pe_makeK0 T.mk_Rule (ok_Rule_init T) (hr.mono (by decide)) (by rfl) T.m_Rule T.kb_Rule_init_1_first_times_top_burst_span.choose_spec pass0 (pk_cons (pe_ix ix_tup (pv 0) pe_int (fun _ _ => rfl)) (pk_cons (pe_ix ix_tup (pv 0) pe_int (fun _ _ => rfl)) (pk_cons (pe_ix ix_tup (pv 0) pe_int (fun _ _ => rfl)) (pk_cons (pe_ix ix_tup (pv 0) pe_int (fun _ _ => rfl)) (pk_cons (pe_ix ix_tup (pv 0) pe_int (fun _ _ => rfl)) pk_nil)))))))), ?_⟩
    refine ⟨_, rfl, v, _, _, _, rfl, rfl, hv, at0, _, rfl, v, _, _, _, rfl, rfl, hv, at1, _, rfl, v, _, _, _, rfl, rfl, hv, at2, _, rfl, v, _, _, _, rfl, rfl, hv, at3, _, rfl, v, _, _, _, rfl, rfl, hv, at4, rfl, rfl, fun x dx nx nd ne => ?_⟩
    refine ⟨x, dx, f, m, t, b, s, rfl, upd_same, fun H' w kp => ⟨rfl, q x H' nx (Same.made nx nd fun b o e n => kp b o e n) ⟨dx, w⟩⟩⟩

-- SPLIT
/-! ### the facts -/
def sp_law_facts (K : PySem.W.Frag) : Sp := fun vs H Q _ => ∃ (p : Addr) (k n : Nat), vs = [.ref p, .int k] ∧ Bag n H p ∧ n < 600000000 ∧ 0 < k ∧ k ≤ 16 ∧
  ∀ (ns ss : List Str) (us : List (Str × UF)) (kvs : List (Key × V)) (d : Addr) H', us.map (·.1) = ns → ns.Nodup → (∀ x ∈ ns, Nm x) → 0 < ns.length → ns.length ≤ k → ss.Nodup → (∀ x ∈ ss, Nm x ∧ x ∉ ns) → ss.length ≤ 2 →
    (∀ q ∈ us, UOk ns ss q.1 q.2) → FactsAt H' kvs us → H d = none → H' d = some (.dK kvs) → Bag (n + 2000) H' p → Kp p H H' → Q (.ref d) H'
theorem ok_law_facts (T : Txt K mg) : FnOk P w K mg base CX0 4 (He.fAd K ("_law_facts", none)) T.d_law_facts ["_law_bag_here", "_law_most"] (sp_law_facts K) := by
  refine T.F_law_facts.ok sc_law_facts (fun vs H Q E h => ?_) (fun cdv A outer s H vs Q E hr h => ?_)
  · obtain ⟨p, k, n, rfl, _⟩ := h
    rfl
  · obtain ⟨p, k, n, rfl, B, hn, hk0, hk, q⟩ := h
    refine ⟨_, PSs.nox (pss_cons (ps_set (i := 2) sc_law_facts.nd rfl (Or.inr rfl) (pe_call (ok_law_names T) (hr.mono (by decide)) (by rfl) T.m_law_names T.F_law_names.kp T.b_law_names .nil pass0 (pa_cons (pv 0) (pa_cons (pe_op op_add pe_int (pe_call (ok_law_take T) (hr.mono (by decide)) (by rfl) T.m_law_take T.F_law_take.kp T.b_law_take .nil pass0 (pa_cons (pv 0) (pa_cons (pv 1) pa_nil)))) pa_nil))))
      (pss_cons (ps_set (i := 3) sc_law_facts.nd rfl (Or.inl rfl) (pe_slice sl_list (pe_lc (own := [("_law_one", 16)]) (by rfl) sc_law_facts.nd (pi_str pe_str) (blkOk_by (own := [("_law_one", 16)]) (N := N_law_facts) (sc := defScope s_law_facts) (by decide +kernel)) (fun _ _ _ _ _ => (pg_name (i := 16) sc_law_facts.nd rfl (Or.inl rfl))) (fun _ _ _ _ _ => (pts_one (pt_cmpR (r := rIn K true) op_notIn_seq (pe_op op_add_str (pv 16) pe_str) (pv 2) (by rfl)))) (fun _ _ _ _ _ => (pe_op op_add_str (pv 16) pe_str))) po_none (po_some pe_int)))
      (pss_cons (ps_set (i := 4) sc_law_facts.nd rfl (Or.inl rfl) (pe_cmpR op_eq (pe_call (ok_law_take T) (hr.mono (by decide)) (by rfl) T.m_law_take T.F_law_take.kp T.b_law_take .nil pass0 (pa_cons (pv 0) (pa_cons pe_int pa_nil))) pe_int (nomark _)))
      (pss_cons (ps_set (i := 5) sc_law_facts.nd rfl (Or.inl rfl) pe_dnewK)
      (pss_cons (ps_for PassesOwn.never rfl (pi_list (pv 2)) (pg_name (i := 6) sc_law_facts.nd rfl (Or.inr rfl))
      (pss_cons (ps_setLc (i := 7) (own := [("_law_one", 16)]) (by rfl) sc_law_facts.nd rfl rfl (sw_true rfl rfl rfl (by decide +kernel)) (pi_list (pv 2)) (blkOk_by (own := [("_law_one", 16)]) (N := N_law_facts) (sc := defScope s_law_facts) (by decide +kernel)) (fun _ _ _ _ _ => (pg_name (i := 16) sc_law_facts.nd rfl (Or.inl rfl))) (fun _ _ _ _ _ => (pts_one (pt_cmpR op_ne (pv 16) (pv 6) (nomark _)))) (fun _ _ _ _ _ => (pv 16)))
      (pss_cons (ps_set (i := 8) sc_law_facts.nd rfl (Or.inl rfl) (pe_ix ix_list (pe_lst (pa_cons pe_int (pa_cons pe_int (pa_cons pe_int (pa_cons pe_int (pa_cons pe_int pa_nil)))))) (pe_call (ok_law_take T) (hr.mono (by decide)) (by rfl) T.m_law_take T.F_law_take.kp T.b_law_take .nil pass0 (pa_cons (pv 0) (pa_cons pe_int pa_nil))) (fun _ _ => rfl)))
      (pss_cons (ps_set (i := 9) sc_law_facts.nd rfl (Or.inl rfl) (pe_call (ok_law_some T) (hr.mono (by decide)) (by rfl) T.m_law_some T.F_law_some.kp T.b_law_some .nil pass0 (pa_cons (pv 0) (pa_cons (pe_op op_cat (pv 7) (pe_slice sl_list (pv 3) po_none (po_some (pe_callTy (T := "int")  call_int1 (by rfl) T.n_int (by decide +kernel) (pa_cons (pe_cmpR op_eq (pe_call (ok_law_take T) (hr.mono (by decide)) (by rfl) T.m_law_take T.F_law_take.kp T.b_law_take .nil pass0 (pa_cons (pv 0) (pa_cons pe_int pa_nil))) pe_int (nomark _)) pa_nil))))) (pa_cons (pv 8) pa_nil)))))
      (pss_cons (ps_set (i := 10) sc_law_facts.nd rfl (Or.inl rfl) (pe_call (ok_law_some T) (hr.mono (by decide)) (by rfl) T.m_law_some T.F_law_some.kp T.b_law_some .nil pass0 (pa_cons (pv 0) (pa_cons (pe_op op_cat (pv 7) (pe_slice sl_list (pv 3) po_none (po_some (pe_callTy (T := "int")  call_int1 (by rfl) T.n_int (by decide +kernel) (pa_cons (pe_cmpR op_eq (pe_call (ok_law_take T) (hr.mono (by decide)) (by rfl) T.m_law_take T.F_law_take.kp T.b_law_take .nil pass0 (pa_cons (pv 0) (pa_cons pe_int pa_nil))) pe_int (nomark _)) pa_nil))))) (pa_cons (pe_ix ix_list (pe_lst (pa_cons pe_int (pa_cons pe_int (pa_cons pe_int pa_nil)))) (pe_call (ok_law_take T) (hr.mono (by decide)) (by rfl) T.m_law_take T.F_law_take.kp T.b_law_take .nil pass0 (pa_cons (pv 0) (pa_cons pe_int pa_nil))) (fun _ _ => rfl)) pa_nil)))))
      (pss_cons (ps_set (i := 11) sc_law_facts.nd rfl (Or.inl rfl) (pe_call (ok_law_some T) (hr.mono (by decide)) (by rfl) T.m_law_some T.F_law_some.kp T.b_law_some .nil pass0 (pa_cons (pv 0) (pa_cons (pe_op op_cat (pv 7) (pe_slice sl_list (pv 3) po_none (po_some pe_int))) (pa_cons (pe_op op_mul (pe_ix ix_list (pe_lst (pa_cons pe_int (pa_cons pe_int (pa_cons pe_int (pa_cons pe_int pa_nil))))) (pe_call (ok_law_take T) (hr.mono (by decide)) (by rfl) T.m_law_take T.F_law_take.kp T.b_law_take .nil pass0 (pa_cons (pv 0) (pa_cons pe_int pa_nil))) (fun _ _ => rfl)) (pe_callTy (T := "int")  call_int1 (by rfl) T.n_int (by decide +kernel) (pa_cons (pe_not (pv 4)) pa_nil))) pa_nil)))))
      (pss_cons (ps_set (i := 12) sc_law_facts.nd rfl (Or.inl rfl) (pe_call (ok_law_some T) (hr.mono (by decide)) (by rfl) T.m_law_some T.F_law_some.kp T.b_law_some .nil pass0 (pa_cons (pv 0) (pa_cons (pe_op op_cat (pv 7) (pv 3)) (pa_cons (pe_ix ix_list (pe_lst (pa_cons pe_int (pa_cons pe_int (pa_cons pe_int (pa_cons pe_int pa_nil))))) (pe_call (ok_law_take T) (hr.mono (by decide)) (by rfl) T.m_law_take T.F_law_take.kp T.b_law_take .nil pass0 (pa_cons (pv 0) (pa_cons pe_int pa_nil))) (fun _ _ => rfl)) pa_nil)))))
      (pss_cons (ps_set (i := 13) sc_law_facts.nd rfl (Or.inl rfl) (pe_ix ix_list (pe_lst (pa_cons pe_str (pa_cons pe_str (pa_cons pe_str (pa_cons pe_str (pa_cons pe_str pa_nil)))))) (pe_call (ok_law_take T) (hr.mono (by decide)) (by rfl) T.m_law_take T.F_law_take.kp T.b_law_take .nil pass0 (pa_cons (pv 0) (pa_cons pe_int pa_nil))) (fun _ _ => rfl)))
      (pss_cons (ps_set (i := 14) sc_law_facts.nd rfl (Or.inl rfl) (pe_mid (pe_ifExp (pt_cmpR op_eq (pv 13) pe_str (nomark _)) (pe_ix ix_list (pe_op op_cat (pv 7) (pv 3)) (pe_call (ok_law_take T) (hr.mono (by decide)) (by rfl) T.m_law_take T.F_law_take.kp T.b_law_take .nil pass0 (pa_cons (pv 0) (pa_cons (pe_op op_add (pe_callB (id := "len")  call_len_seq (by rfl) T.n_len (by decide +kernel) (pa_cons (pv 7) pa_nil)) pe_int) pa_nil))) (fun _ _ => rfl)) pe_non)))
      (pss_cons (ps_set (i := 15) sc_law_facts.nd rfl (Or.inl rfl) (pe_mid (pe_ifExp (pt_cmpR op_gt (pe_call (ok_law_take T) (hr.mono (by decide)) (by rfl) T.m_law_take T.F_law_take.kp T.b_law_take .nil pass0 (pa_cons (pv 0) (pa_cons pe_int pa_nil))) pe_int (nomark _)) (pe_call (ok_law_rule_parts T) (hr.mono (by decide)) (by rfl) T.m_law_rule_parts T.F_law_rule_parts.kp T.b_law_rule_parts .nil pass0 (pa_cons (pv 0) pa_nil)) pe_non)))
      (pss_one (ps_dput (hu_of hr) (pv 5) (pv 6) (pe_tup (pa_cons (pv 13) (pa_cons (pv 9) (pa_cons (pv 10) (pa_cons (pv 11) (pa_cons (pv 12) (pa_cons (pv 14) (pa_cons (pv 15) pa_nil)))))))) rfl))))))))))))
      (pss_one (ps_ret (pv 5)))))))), ?_⟩
    -- named = names(bag, 1 + take(bag, most))
    refine ⟨_, rfl, _, rfl, _, rfl, ?_⟩
    refine take_of (z := (k : Int)) B (by omega) (by omega) (by omega) fun r1 H1 a1 b1 B1 k1 => ?_
    obtain ⟨j1, rfl⟩ := Int.eq_ofNat_of_zero_le a1
    refine ⟨_, _, rfl, rfl, p, 1 + j1, n + 1, rfl, B1, by omega, by omega, fun ns l H2 hnl hnd hnm nl w2 B2 k2 => ?_⟩
    have kA := k1.trans k2
    have npl : l ≠ p := fun e => by
      obtain ⟨o, ho⟩ := B1.some
      rw [e, ho] at nl
      cases nl
    -- strange
    refine ⟨_, rfl, fun D nD => ?_⟩
    refine lc_it (walk_str (z := srettelS)) (fun j H' => Same H2 H' ∧ H' D = some (.lst ((((List.range j).map fun i => (⟨#[122 - i]⟩ : Str) ++ Str.ofString "zz").filter fun x => decide (x ∉ ns)).map V.str))) ⟨same_upd nD, upd_same⟩ (fun _ _ _ _ => trivial) ?_ ?_
    · rintro j x H4 H4' hj ⟨s4, w4⟩ ⟨rfl, c, hc', rfl⟩
      obtain ⟨hj26, rfl⟩ := srettel_get hc'
      refine ⟨rfl, ?_⟩
      have ltot : ((⟨#[122 - j]⟩ : Str).length + (Str.ofString "zz").length) ≤ sizeLine := by
        have h1 : (⟨#[122 - j]⟩ : Str).length = 1 := rfl
        rw [h1]
        decide +kernel
      refine ⟨_, rfl, _, _, rfl, rfl, ltot, _, rfl, l, _, rfl, .inl (SqL.of (s4 _ _ w2)), rfl, strs_flat ns, _, rfl, ?_⟩
      rw [range_map_succ', List.filter_append, List.map_append]
      show if (if true = true then !inV (.str ((⟨#[122 - j]⟩ : Str) ++ Str.ofString "zz")) (ns.map V.str) else _) = true then _ else _
      rw [if_pos rfl, inV_str]
      by_cases hin : (⟨#[122 - j]⟩ : Str) ++ Str.ofString "zz" ∈ ns
      · rw [decide_eq_true hin]
        refine iteF ⟨s4, ?_⟩
        rw [List.filter_cons_of_neg (p := fun x => decide (x ∉ ns)) (by rw [decide_eq_false (fun z => z hin)]; exact Bool.false_ne_true)]
        rw [List.filter_nil, List.map_nil, List.append_nil]
        exact w4
      · rw [decide_eq_false hin]
        refine iteT ?_
        refine ⟨_, rfl, _, _, rfl, rfl, ltot, _, w4, ?_, Same.own (q := D) (H1 := H4') s4 (mut_keep rfl) nD, ?_⟩
        · rw [List.length_map]
          refine Nat.lt_of_le_of_lt (List.length_filter_le _ _) ?_
          rw [List.length_map, List.length_range]
          exact small1000 (by omega)
        · rw [upd_same, List.filter_cons_of_pos (p := fun x => decide (x ∉ ns)) (decide_eq_true hin)]
          rfl
    rintro H4 ⟨s4, w4⟩
    rw [srettel_size] at w4
    have hpos := filter_free (rcands_nodup (Str.ofString "zz")) (ds := ns) (by unfold rcands; rw [List.length_map, List.length_range]; omega)
    have hcn := List.Nodup.sublist List.filter_sublist (rcands_nodup (Str.ofString "zz")) (l₁ := (rcands (Str.ofString "zz")).filter fun x => decide (x ∉ ns))
    have hcm : ∀ x ∈ (rcands (Str.ofString "zz")).filter fun x => decide (x ∉ ns), Nm x ∧ x ∉ ns := fun x hx => by
      obtain ⟨h1, h2⟩ := List.mem_filter.mp hx
      obtain ⟨i, hi, rfl⟩ := List.mem_map.mp h1
      exact ⟨rcand_nm (List.mem_range.mp hi), of_decide_eq_true h2⟩
    change H4 D = some (.lst (((rcands (Str.ofString "zz")).filter fun x => decide (x ∉ ns)).map V.str)) at w4
    generalize (rcands (Str.ofString "zz")).filter (fun x => decide (x ∉ ns)) = fs at hpos hcn hcm w4
    refine ⟨_, rfl, D, _, rfl, SqL.of w4, fun a na => ?_⟩
    rw [show cutV (fs.map V.str) none (some 2) = (fs.take 2).map V.str from cutV_strs fs 2]
    have ssn : (fs.take 2).Nodup := List.Nodup.sublist (List.take_sublist _ _) hcn
    have ssm : ∀ x ∈ fs.take 2, Nm x ∧ x ∉ ns := fun x hx => hcm x (List.mem_of_mem_take hx)
    have ssl : (fs.take 2).length ≤ 2 := by rw [List.length_take]; omega
    have ssp : 0 < (fs.take 2).length := by rw [List.length_take]; omega
    generalize fs.take 2 = ss at ssn ssm ssl ssp
    generalize hE5 : upd H4 a _ = H5
    have wa := new_at hE5
    have s5 := s4.trans (new_same hE5 na)
    have wl := s5 _ _ w2
    have npa : p ≠ a := (B2.same s4).ne na
    have nla : l ≠ a := ne_some (s4 _ _ w2) na
    -- loose
    refine ⟨_, rfl, ?_⟩
    refine take_of (z := 4) (B2.same s5) (by decide) (by decide) (by omega) fun r6 H6 a6 b6 B6 k6 => ?_
    have kB := (kA.same s5).trans k6
    have wl6 := k6 _ _ wl npl
    have wa6 := k6 _ _ wa npa.symm
    refine ⟨rfl, fun d nd => ?_⟩
    generalize decide (V.int r6 = V.int 0) = loose
    generalize hE7 : upd H6 d _ = H7
    have wd := new_at hE7
    have s7 := new_same hE7 nd
    have npd := B6.ne nd
    have nld : l ≠ d := ne_some wl6 nd
    have nad : a ≠ d := ne_some wa6 nd
    have ndH : H d = none := kB.free nd npd.symm
    -- for word in named
    refine ⟨_, rfl, l, rfl, ⟨_, SqL.of (s7 _ _ wl6)⟩, for_list (xs := ns.map V.str) (fun i σ H' => Bag (n + 300 + 100 * i) H' p ∧ Kp p H H' ∧ ∃ (us : List (Str × UF)) (kvs : List (Key × V)) (y6 y7 y8 y9 y10 y11 y12 y13 y14 y15 y16 : Option V), us.map (·.1) = ns.take i ∧ (∀ q ∈ us, UOk ns ss q.1 q.2) ∧ FactsAt H' kvs us ∧ H' d = some (.dK kvs) ∧ H' l = some (.lst (ns.map V.str)) ∧ H' a = some (.lst (ss.map V.str)) ∧
        σ = [some (.ref p), some (.int k), some (.ref l), some (.ref a), some (.bl loose), some (.ref d), y6, y7, y8, y9, y10, y11, y12, y13, y14, y15, y16])
      ⟨(B6.same s7).le (by omega), kB.same s7, [], [], none, none, none, none, none, none, none, none, none, none, none, rfl, (fun q hq => nomatch hq), .nil, wd, s7 _ _ wl6, s7 _ _ wa6, rfl⟩ ?_ ?_ ?_⟩
    · rintro i σ H' hi ⟨B8, k8, us, kvs, y6, y7, y8, y9, y10, y11, y12, y13, y14, y15, y16, hus, huo, hfa, wd8, wl8, wa8, rfl⟩
      exact SqL.of wl8
    · rintro i x σ H8 hi ⟨B8, k8, us, kvs, y6, y7, y8, y9, y10, y11, y12, y13, y14, y15, y16, hus, huo, hfa, wd8, wl8, wa8, rfl⟩
      obtain ⟨word, hword, rfl⟩ := map_str_get hi
      have hil : i < ns.length := by
        rw [List.getElem?_eq_some_iff] at hword
        exact hword.1
      have hwn : word ∈ ns := List.mem_of_getElem? hword
      -- pool
      refine ⟨_, rfl, l, rfl, ⟨_, SqL.of wl8⟩, fun D nD => ?_⟩
      refine lc_list (xs := ns.map V.str) (fun j H' => Same H8 H' ∧ H' D = some (.lst (((ns.take j).filter fun x => decide (x ≠ word)).map V.str))) ⟨same_upd nD, upd_same⟩ (fun j H' hj h => SqL.of (h.1 _ _ wl8)) ?_ ?_
      · rintro j x H9 hj ⟨s9, w9⟩
        obtain ⟨one, hone, rfl⟩ := map_str_get hj
        refine ⟨rfl, ?_⟩
        rw [take_filter_snoc _ hone]
        refine ⟨_, rfl, _, rfl, rfl, _, rfl, ?_⟩
        by_cases he : one = word
        · subst he
          rw [decide_eq_true (show V.str one = V.str one from rfl)]
          refine iteF ⟨s9, ?_⟩
          rw [if_neg (by rw [decide_eq_false (fun z => z rfl)]; exact Bool.false_ne_true), List.append_nil]
          exact w9
        · rw [decide_eq_false (fun z : V.str one = V.str word => he (by injection z))]
          refine iteT ⟨_, rfl, _, w9, ?_, Same.own (q := D) (H1 := H9) s9 (mut_keep rfl) nD, ?_⟩
          · rw [List.length_map]
            refine Nat.lt_of_le_of_lt (List.length_filter_le _ _) (Nat.lt_of_le_of_lt (List.length_take_le' ..) (small1000 ?_))
            omega
          · rw [upd_same, if_pos (decide_eq_true he), List.map_append]
            rfl
      rintro H9 ⟨s9, wp9⟩
      rw [List.length_map, List.take_length] at wp9
      have mixed := fun zs => mix_ok (zs := zs) hnd ssn hnm ssm (by omega) ssl hwn
      have plen : (ns.filter fun x => decide (x ≠ word)).length ≤ 20 := Nat.le_trans (List.length_filter_le _ _) (by omega)
      generalize hpool : (ns.filter fun x => decide (x ≠ word)) = pool at mixed wp9 plen
      have B9 := B8.same s9
      have npD : p ≠ D := B8.ne nD
      have wa9 := s9 _ _ wa8
      have wl9 := s9 _ _ wl8
      have wd9 := s9 _ _ wd8
      have fa9 := hfa.same s9
      -- wide
      refine ⟨by show 5 ≤ sizeLine; decide, fun l1 n1 => ⟨_, rfl, ?_⟩⟩
      refine pick_menu [V.int (0 : Nat), V.int (1 : Nat), V.int (1 : Nat), V.int (2 : Nat), V.int (4 : Nat)] B9 (by omega) n1 rfl (by decide) (by decide) fun wide H10 hwide B10 k10 => ?_
      obtain ⟨wd10, rfl, hwd⟩ : ∃ j : Nat, wide = .int j ∧ j ≤ 4 := by
        simp only [List.mem_cons, List.not_mem_nil, or_false] at hwide
        rcases hwide with rfl | rfl | rfl | rfl | rfl
        · exact ⟨0, rfl, by decide⟩
        · exact ⟨1, rfl, by decide⟩
        · exact ⟨1, rfl, by decide⟩
        · exact ⟨2, rfl, by decide⟩
        · exact ⟨4, rfl, by decide⟩
      -- musts
      refine ⟨_, rfl, _, rfl, _, rfl, _, rfl, ?_⟩
      refine take_of (z := 12) B10 (by decide) (by decide) (by omega) fun r11 H11 a11 b11 B11 k11 => ?_
      have kk11 := k10.trans k11
      refine ⟨rfl, .inr ⟨_, rfl, _, rfl, a, _, rfl, SqL.of (kk11 _ _ wa9 npa.symm), fun c1 n12 => ?_⟩⟩
      obtain ⟨m1, hm1⟩ := cutV_bit ss (decide (V.int r11 = V.int 0))
      rw [hm1]
      generalize hE12 : upd H11 c1 _ = H12
      have wc12 := new_at hE12
      have s12 := new_same hE12 n12
      have kk12 := kk11.same s12
      refine ⟨D, c1, _, _, rfl, rfl, kk12 _ _ wp9 npD.symm, wc12, by rw [List.length_map, List.length_map, List.length_take]; exact Nat.le_of_lt (small1000 (by omega)), fun c2 n13 => ?_⟩
      rw [← List.map_append]
      generalize hE13 : upd H12 c2 _ = H13
      have wc13 := new_at hE13
      have kk13 := kk12.same (new_same hE13 n13)
      have B13 := (B11.same s12).same (new_same hE13 n13)
      obtain ⟨x1, x2, x3, x4⟩ := mixed (ss.take m1) (List.take_sublist _ _)
      refine ⟨_, rfl, p, c2, wd10, _, _, rfl, B13, by omega, by omega, SqL.of wc13, ((B11.same s12).ne n13).symm, x1, x2, x3, fun musts t1 H14 u1 u2 u3 nt1 wt1 B14 k14 => ?_⟩
      have kk14 := kk13.trans k14
      have npt1 : t1 ≠ p := fun e => by
        rw [e] at wt1
        exact B14.notTup _ wt1
      have hmusts : ∀ x ∈ musts, (x ∈ ns ∨ x ∈ ss) ∧ x ≠ word := fun x hx => x4 x (u2 x hx)
      -- likes
      refine ⟨_, rfl, _, rfl, _, rfl, _, rfl, ?_⟩
      refine take_of (z := 3) B14 (by decide) (by decide) (by omega) fun r15 H15 a15 b15 B15 k15 => ?_
      have kk15 := kk14.trans k15
      refine ⟨rfl, .inr ⟨_, rfl, _, rfl, a, _, rfl, SqL.of (kk15 _ _ wa9 npa.symm), fun c3 n16 => ?_⟩⟩
      obtain ⟨m2, hm2⟩ := cutV_bit ss (decide (V.int r15 = V.int 0))
      rw [hm2]
      generalize hE16 : upd H15 c3 _ = H16
      have wc16 := new_at hE16
      have s16 := new_same hE16 n16
      have kk16 := kk15.same s16
      refine ⟨D, c3, _, _, rfl, rfl, kk16 _ _ wp9 npD.symm, wc16, by rw [List.length_map, List.length_map, List.length_take]; exact Nat.le_of_lt (small1000 (by omega)), fun c4 n17 => ?_⟩
      rw [← List.map_append]
      generalize hE17 : upd H16 c4 _ = H17
      have wc17 := new_at hE17
      have s17 := new_same hE17 n17
      have kk17 := kk16.same s17
      have B17 := (B15.same s16).same s17
      have np4 : p ≠ c4 := (B15.same s16).ne n17
      obtain ⟨x5, x6, x7, x8⟩ := mixed (ss.take m2) (List.take_sublist _ _)
      refine ⟨by show 3 ≤ sizeLine; decide, fun l2 n2 => ⟨_, rfl, ?_⟩⟩
      refine pick_menu [V.int (1 : Nat), V.int (3 : Nat), V.int (8 : Nat)] B17 (by omega) n2 rfl (by decide) (by decide) fun wide2 H18 hwide2 B18 k18 => ?_
      obtain ⟨wd18, rfl, hwd18⟩ : ∃ j : Nat, wide2 = .int j ∧ j ≤ 8 := by
        simp only [List.mem_cons, List.not_mem_nil, or_false] at hwide2
        rcases hwide2 with rfl | rfl | rfl
        · exact ⟨1, rfl, by decide⟩
        · exact ⟨3, rfl, by decide⟩
        · exact ⟨8, rfl, by decide⟩
      refine ⟨p, c4, wd18, _, _, rfl, B18, by omega, by omega, SqL.of (k18 _ _ wc17 np4.symm), np4.symm, x5, x6, x7, fun likes t2 H19 u4 u5 u6 nt2 wt2 B19 k19 => ?_⟩
      have kk19 := (kk17.trans k18).trans k19
      have kl19 : Kp p H14 H19 := (((k15.same s16).same s17).trans k18).trans k19
      have npt2 : t2 ≠ p := fun e => by
        rw [e] at wt2
        exact B19.notTup _ wt2
      have hlikes : ∀ x ∈ likes, (x ∈ ns ∨ x ∈ ss) ∧ x ≠ word := fun x hx => x8 x (u5 x hx)
      have wt1b := kl19 _ _ wt1 npt1
      -- foes
      refine ⟨_, rfl, _, rfl, _, rfl, _, rfl, a, _, rfl, SqL.of (kk19 _ _ wa9 npa.symm), fun c5 n20 => ?_⟩
      rw [show cutV (ss.map V.str) none (some 1) = (ss.take 1).map V.str from cutV_strs ss 1]
      generalize hE20 : upd H19 c5 _ = H20
      have wc20 := new_at hE20
      have s20 := new_same hE20 n20
      have kk20 := kk19.same s20
      refine ⟨D, c5, _, _, rfl, rfl, kk20 _ _ wp9 npD.symm, wc20, by rw [List.length_map, List.length_map, List.length_take]; exact Nat.le_of_lt (small1000 (by omega)), fun c6 n21 => ?_⟩
      rw [← List.map_append]
      generalize hE21 : upd H20 c6 _ = H21
      have wc21 := new_at hE21
      have s21 := new_same hE21 n21
      have B21 := (B19.same s20).same s21
      have np6 : p ≠ c6 := (B19.same s20).ne n21
      obtain ⟨x9, x10, x11, x12⟩ := mixed (ss.take 1) (List.take_sublist _ _)
      refine ⟨by show 4 ≤ sizeLine; decide, fun l3 n3 => ⟨_, rfl, ?_⟩⟩
      refine pick_menu [V.int (0 : Nat), V.int (0 : Nat), V.int (1 : Nat), V.int (2 : Nat)] B21 (by omega) n3 rfl (by decide) (by decide) fun wide3 H22 hwide3 B22 k22 => ?_
      obtain ⟨wd22, rfl, hwd22⟩ : ∃ j : Nat, wide3 = .int j ∧ j ≤ 2 := by
        simp only [List.mem_cons, List.not_mem_nil, or_false] at hwide3
        rcases hwide3 with rfl | rfl | rfl | rfl
        · exact ⟨0, rfl, by decide⟩
        · exact ⟨0, rfl, by decide⟩
        · exact ⟨1, rfl, by decide⟩
        · exact ⟨2, rfl, by decide⟩
      obtain ⟨wd23, e23, hwd23⟩ : ∃ j : Nat, ((wd22 : Nat) : Int) * (if (!loose) = true then 1 else 0) = (j : Int) ∧ j ≤ 2 := by
        cases loose
        · exact ⟨wd22, Int.mul_one _, hwd22⟩
        · exact ⟨0, Int.mul_zero _, by decide⟩
      refine ⟨_, rfl, _, rfl, .inr ⟨_, rfl, _, _, rfl, rfl, cmul_b, ?_⟩⟩
      refine ⟨p, c6, wd23, _, _, (by show [V.ref p, V.ref c6, V.int _] = _; rw [e23]), B22, by omega, by omega, SqL.of (k22 _ _ wc21 np6.symm), np6.symm, x9, x10, x11, fun foes t3 H24 u7 u8 u9 nt3 wt3 B24 k24 => ?_⟩
      have kl24 : Kp p H19 H24 := (((Kp.of s20).same s21).trans k22).trans k24
      have kk24 := kk19.trans kl24
      have npt3 : t3 ≠ p := fun e => by
        rw [e] at wt3
        exact B24.notTup _ wt3
      have hfoes : ∀ x ∈ foes, (x ∈ ns ∨ x ∈ ss) ∧ x ≠ word := fun x hx => x12 x (u8 x hx)
      have wt1c := kl24 _ _ wt1b npt1
      have wt2c := kl24 _ _ wt2 npt2
      -- elders
      refine ⟨_, rfl, _, rfl, _, rfl, D, a, _, _, rfl, rfl, kk24 _ _ wp9 npD.symm, kk24 _ _ wa9 npa.symm, by rw [List.length_map, List.length_map]; exact Nat.le_of_lt (small1000 (by omega)), fun c7 n25 => ?_⟩
      rw [← List.map_append]
      generalize hE25 : upd H24 c7 _ = H25
      have wc25 := new_at hE25
      have s25 := new_same hE25 n25
      have np7 : p ≠ c7 := B24.ne n25
      obtain ⟨x13, x14, x15, x16⟩ := mixed ss (List.Sublist.refl _)
      refine ⟨by show 4 ≤ sizeLine; decide, fun l4 n4 => ⟨_, rfl, ?_⟩⟩
      refine pick_menu [V.int (0 : Nat), V.int (1 : Nat), V.int (2 : Nat), V.int (8 : Nat)] (B24.same s25) (by omega) n4 rfl (by decide) (by decide) fun wide4 H26 hwide4 B26 k26 => ?_
      obtain ⟨wd26, rfl, hwd26⟩ : ∃ j : Nat, wide4 = .int j ∧ j ≤ 8 := by
        simp only [List.mem_cons, List.not_mem_nil, or_false] at hwide4
        rcases hwide4 with rfl | rfl | rfl | rfl
        · exact ⟨0, rfl, by decide⟩
        · exact ⟨1, rfl, by decide⟩
        · exact ⟨2, rfl, by decide⟩
        · exact ⟨8, rfl, by decide⟩
      refine ⟨p, c7, wd26, _, _, rfl, B26, by omega, by omega, SqL.of (k26 _ _ wc25 np7.symm), np7.symm, x13, x14, x15, fun elders t4 H27 u10 u11 u12 nt4 wt4 B27 k27 => ?_⟩
      have kl27 : Kp p H24 H27 := ((Kp.of s25).trans k26).trans k27
      have kk27 := kk24.trans kl27
      have npt4 : t4 ≠ p := fun e => by
        rw [e] at wt4
        exact B27.notTup _ wt4
      have helders : ∀ x ∈ elders, (x ∈ ns ∨ x ∈ ss) ∧ x ≠ word := fun x hx => x16 x (u11 x hx)
      have wt1d := kl27 _ _ wt1c npt1
      have wt2d := kl27 _ _ wt2c npt2
      have wt3d := kl27 _ _ wt3 npt3
      -- sort
      refine ⟨by show 5 ≤ sizeLine; decide, fun l5 n5 => ⟨_, rfl, ?_⟩⟩
      refine pick_menu [V.str (Str.ofString "work"), V.str (Str.ofString "work"), V.str (Str.ofString "work"), V.str (Str.ofString "goal"), V.str (Str.ofString "door")] B27 (by omega) n5 rfl (by decide) (by decide) fun sortV H28 hsort B28 k28 => ?_
      obtain ⟨sort, rfl, hsort'⟩ : ∃ z : Str, sortV = .str z ∧ (z = Str.ofString "work" ∨ z = Str.ofString "goal" ∨ z = Str.ofString "door") := by
        simp only [List.mem_cons, List.not_mem_nil, or_false] at hsort
        rcases hsort with rfl | rfl | rfl | rfl | rfl
        · exact ⟨_, rfl, .inl rfl⟩
        · exact ⟨_, rfl, .inl rfl⟩
        · exact ⟨_, rfl, .inl rfl⟩
        · exact ⟨_, rfl, .inr (.inl rfl)⟩
        · exact ⟨_, rfl, .inr (.inr rfl)⟩
      have kk28 := kk27.trans k28
      have kl28 := k28
      -- goal
      refine ⟨fun v H' => Bag (n + 300 + 100 * i + 61) H' p ∧ Kp p H28 H' ∧ ∃ g : Option Str, v = optV g ∧ (∀ x ∈ g.toList, (x ∈ ns ∨ x ∈ ss) ∧ x ≠ word) ∧ (sort = Str.ofString "door" → g ≠ none) ∧ (sort ≠ Str.ofString "door" → g = none), ?_, ?_⟩
      · refine ⟨_, rfl, rfl, _, rfl, ?_⟩
        by_cases hdoor : sort = Str.ofString "door"
        · subst hdoor
          refine iteYd rfl ?_
          have wp28 := kk28 _ _ wp9 npD.symm
          refine ⟨_, rfl, _, rfl, D, a, _, _, rfl, rfl, wp28, kk28 _ _ wa9 npa.symm, by rw [List.length_map, List.length_map]; exact Nat.le_of_lt (small1000 (by omega)), fun c8 n29 => ?_⟩
          rw [← List.map_append]
          generalize hE29 : upd H28 c8 _ = H29
          have wc29 := new_at hE29
          have s29 := new_same hE29 n29
          have np8 : p ≠ c8 := B28.ne n29
          refine ⟨_, rfl, _, rfl, D, _, rfl, .inl (SqL.of (s29 _ _ wp28)), _, _, rfl, rfl, ?_⟩
          refine take_of (z := ((pool.map V.str).length : Int) + 1) (B28.same s29) (by omega) (by rw [List.length_map]; omega) (by omega) fun r30 H30 a30 b30 B30 k30 => ?_
          rw [List.length_map] at b30
          obtain ⟨z, hz, ez⟩ := menu_str (zs := pool ++ ss) a30 (by rw [List.length_append]; omega)
          exact ⟨c8, _, _, _, rfl, rfl, SqL.of (k30 _ _ wc29 np8.symm), ez, B30.le (by omega), (Kp.of s29).trans k30, some z, rfl, (fun x hx => by cases List.mem_singleton.mp hx; exact x16 _ hz), (fun _ e => nomatch e), (fun z => absurd rfl z)⟩
        · refine iteNd (fun z => hdoor (by injection z)) ?_
          exact ⟨B28.le (by omega), Kp.refl _ _, none, rfl, (fun x hx => nomatch hx), (fun z => absurd z hdoor), (fun _ => rfl)⟩
      rintro vg H29 ⟨B29, k29, goal, rfl, hgoal, hg1, hg2⟩
      have kl29 := kl28.trans k29
      -- five
      refine ⟨fun v H' => Bag (n + 300 + 100 * i + 80) H' p ∧ Kp p H29 H' ∧ ∃ o, FiveAt H' v o, ?_, ?_⟩
      · refine ⟨_, rfl, ?_⟩
        refine take_of (z := 3) B29 (by decide) (by decide) (by omega) fun r30 H30 a30 b30 B30 k30 => ?_
        refine ⟨_, _, rfl, rfl, _, rfl, ?_⟩
        refine ite2 (fun _ => ?_) (fun _ => ?_)
        · exact ⟨_, rfl, p, _, rfl, B30, by omega, fun f m t b s v H' F nv wv B' k' => ⟨B'.le (by omega), k30.trans k', some (f, m, t, b, s), v, rfl, wv, F⟩⟩
        · exact ⟨B30.le (by omega), k30, none, rfl⟩
      rintro vf H30 ⟨B30, k30, five, hfive⟩
      have kl30 := kl29.trans k30
      have kk30 := (kk28.trans k29).trans k30
      -- found[word] = (...)
      refine ⟨_, rfl, _, rfl, _, rfl, _, rfl, _, rfl, _, rfl, _, rfl, by show 7 ≤ sizeLine; decide, fun tt ntt => ?_⟩
      generalize hE31 : upd H30 tt _ = H31
      have wt31 := new_at hE31
      have s31 := new_same hE31 ntt
      have wd31 := s31 _ _ (kk30 _ _ wd9 npd.symm)
      have fa31 := (fa9.keep kk30 B9.notTup).same s31
      have hfree : word ∉ us.map (·.1) := by
        rw [hus]
        intro hm
        obtain ⟨j, hj, e⟩ := List.getElem_of_mem hm
        rw [List.length_take] at hj
        rw [List.getElem_take] at e
        have hji : j = i := by
          have h1 : ns[i]? = some word := hword
          have h2 : ns[j]? = some word := by rw [List.getElem?_eq_getElem (by omega), e]
          exact (List.getElem?_inj (by omega) hnd).mp (h2.trans h1.symm)
        omega
      have hul : kvs.length ≤ 20 := by
        have h1 := hfa.len
        have h2 := congrArg List.length hus
        rw [List.length_map, List.length_take] at h2
        omega
      refine ⟨_, rfl, _, rfl, d, _, rfl, DPut.k (k := Sum.inr word) wd31 (small1000 (by omega)), ?_⟩
      rw [putK_new _ (hfa.free hfree)]
      generalize hE32 : upd H31 d _ = H32
      have wd32 := new_at hE32
      have m32 := mut_keep hE32
      have nt32 := NotTup.dK wd31
      refine ⟨((B30.same s31).keep m32 npd).le (by omega), (((k8.same s9).trans kk30).same s31).own m32 ndH, us ++ [(word, ⟨sort, musts, likes, foes, elders, goal, five⟩)], _, _, _, _, _, _, _, _, _, _, _, _, ?_, ?_, .snoc (fa31.keep m32 nt32) ?_, wd32, m32 _ _ (s31 _ _ (kk30 _ _ wl9 npl)) nld, m32 _ _ (s31 _ _ (kk30 _ _ wa9 npa.symm)) nad, rfl⟩
      · rw [List.map_append, hus, List.take_add_one, hword]
        rfl
      · intro q hq
        rcases List.mem_append.mp hq with hq | hq
        · exact huo q hq
        · rw [List.mem_singleton.mp hq]
          refine ⟨hsort', u1, u4, u7, u10, by show musts.length ≤ 8; omega, by show likes.length ≤ 8; omega, by show foes.length ≤ 8; omega, by show elders.length ≤ 8; omega, fun x hx => ?_, hg1, hg2⟩
          rcases List.mem_append.mp hx with hx | hx
          · rcases List.mem_append.mp hx with hx | hx
            · rcases List.mem_append.mp hx with hx | hx
              · rcases List.mem_append.mp hx with hx | hx
                · exact hmusts x hx
                · exact hlikes x hx
              · exact hfoes x hx
            · exact helders x hx
          · exact hgoal x hx
      · refine FactAt.keep (FactAt.same (H := H31) ?_ (Same.refl _)) m32 nt32
        exact ⟨tt, t1, t2, t3, t4, vf, rfl, wt31, s31 _ _ (kl30 _ _ wt1d npt1), s31 _ _ (kl30 _ _ wt2d npt2), s31 _ _ (kl30 _ _ wt3d npt3), s31 _ _ (kl30 _ _ wt4 npt4), hfive.same s31⟩
    · rintro σ H8 ⟨B8, k8, us, kvs, y6, y7, y8, y9, y10, y11, y12, y13, y14, y15, y16, hus, huo, hfa, wd8, wl8, wa8, rfl⟩
      rw [List.length_map] at B8 hus
      rw [List.take_length] at hus
      exact ⟨_, rfl, q ns ss us kvs d H8 hus hnd hnm (by omega) (by omega) ssn ssm ssl huo hfa ndH wd8 (B8.le (by omega)) k8⟩

-- SPLIT
/-! ### a unit -/
abbrev uFs (w k n x b a o r : V) : List (Str × V) := [("name", w), ("kind", k), ("needs", n), ("wants", x), ("bars", b), ("after", a), ("opens", o), ("rule", r)]
def sp_Unit_init (K : PySem.W.Frag) : Sp := fun vs H Q _ => ∃ (p dx : Addr) (v1 v2 v3 v4 v5 v6 v7 v8 : V), vs = [.ref p, v1, v2, v3, v4, v5, v6, v7, v8] ∧ H p = some (.ins (He.ga K "Unit") dx []) ∧
  ∀ H', H' p = some (.ins (He.ga K "Unit") dx (uFs v1 v2 v3 v4 v5 v6 v7 v8)) → Kp p H H' → Q .non H'
theorem ok_Unit_init (T : Txt K mg) : FnOk P w K mg base CX0 1 (He.fAd K ("Unit", some "__init__")) T.d_Unit_init ["self", "name", "kind", "needs", "wants", "bars", "after", "opens", "rule"] (sp_Unit_init K) := by
  refine T.F_Unit_init.ok sc_Unit_init (fun vs H Q E h => ?_) (fun cdv A outer s H vs Q E hr h => ?_)
  · obtain ⟨p, dx, v1, v2, v3, v4, v5, v6, v7, v8, rfl, _⟩ := h
    rfl
  · obtain ⟨p, dx, v1, v2, v3, v4, v5, v6, v7, v8, rfl, hp, q⟩ := h
    refine ⟨_, PSs.nox (pss_cons (ps_fld (pv 0) (pv 1) rfl)
      (pss_cons (ps_fld (pv 0) (pv 2) rfl)
      (pss_cons (ps_fld (pv 0) (pv 3) rfl)
      (pss_cons (ps_fld (pv 0) (pv 4) rfl)
      (pss_cons (ps_fld (pv 0) (pv 5) rfl)
      (pss_cons (ps_fld (pv 0) (pv 6) rfl)
      (pss_cons (ps_fld (pv 0) (pv 7) rfl)
      (pss_one (ps_fld (pv 0) (pv 8) rfl))))))))), ?_⟩
    refine ⟨_, rfl, _, rfl, p, _, dx, [], rfl, hp, T.cl_Unit, T.na_Unit_name, (by show 0 < 1000; decide), ?_⟩
    refine ⟨_, rfl, _, rfl, p, _, dx, _, rfl, upd_same, T.cl_Unit, T.na_Unit_kind, (by show 1 < 1000; decide), ?_⟩
    refine ⟨_, rfl, _, rfl, p, _, dx, _, rfl, upd_same, T.cl_Unit, T.na_Unit_needs, (by show 2 < 1000; decide), ?_⟩
    refine ⟨_, rfl, _, rfl, p, _, dx, _, rfl, upd_same, T.cl_Unit, T.na_Unit_wants, (by show 3 < 1000; decide), ?_⟩
    refine ⟨_, rfl, _, rfl, p, _, dx, _, rfl, upd_same, T.cl_Unit, T.na_Unit_bars, (by show 4 < 1000; decide), ?_⟩
    refine ⟨_, rfl, _, rfl, p, _, dx, _, rfl, upd_same, T.cl_Unit, T.na_Unit_after, (by show 5 < 1000; decide), ?_⟩
    refine ⟨_, rfl, _, rfl, p, _, dx, _, rfl, upd_same, T.cl_Unit, T.na_Unit_opens, (by show 6 < 1000; decide), ?_⟩
    refine ⟨_, rfl, _, rfl, p, _, dx, _, rfl, upd_same, T.cl_Unit, T.na_Unit_rule, (by show 7 < 1000; decide), ?_⟩
    refine q _ upd_same fun c o h n => ?_
    rw [upd_ne n, upd_ne n, upd_ne n, upd_ne n, upd_ne n, upd_ne n, upd_ne n, upd_ne n]
    exact h
/-- the rule of a unit, or None -/
def RuleOpt (K : PySem.W.Frag) (H : Hp) : V → Option (Int × Int × Int × Int × Int) → Prop
  | v, none => v = .non
  | v, some (f, m, t, b, s) => ∃ r, v = .ref r ∧ RuleAt K H r f m t b s
theorem RuleOpt.same {H H' : Hp} {v : V} {o : Option (Int × Int × Int × Int × Int)} (h : RuleOpt K H v o) (s : Same H H') : RuleOpt K H' v o := by
  cases o with
  | none => exact h
  | some o =>
    obtain ⟨f, m, t, b, s'⟩ := o
    obtain ⟨p, e, hp⟩ := h
    exact ⟨p, e, hp.same s⟩
theorem RuleOpt.keep {H H' : Hp} {v : V} {o : Option (Int × Int × Int × Int × Int)} {q : Addr} (h : RuleOpt K H v o) (k : Kp q H H') (n : ∀ C dx fs, H q ≠ some (.ins C dx fs)) : RuleOpt K H' v o := by
  cases o with
  | none => exact h
  | some o =>
    obtain ⟨f, m, t, b, s'⟩ := o
    obtain ⟨p, e, dx, hp⟩ := h
    exact ⟨p, e, dx, k _ _ hp fun z => n _ _ _ (z ▸ hp)⟩
/-- a unit stands at a -/
def UnitAt (K : PySem.W.Frag) (H : Hp) (p : Addr) (w : Str) (u : UF) : Prop := ∃ (dx n x b a : Addr) (r : V), H p = some (.ins (He.ga K "Unit") dx (uFs (.str w) (.str u.kind) (.ref n) (.ref x) (.ref b) (.ref a) (optV u.opens) r)) ∧
  SqT K H n (u.needs.map V.str) ∧ SqT K H x (u.wants.map V.str) ∧ SqT K H b (u.bars.map V.str) ∧ SqT K H a (u.after.map V.str) ∧ RuleOpt K H r u.five
/-- the seven facts, whatever way their tuples stand -/
def FactS (K : PySem.W.Frag) (H : Hp) (v : V) (u : UF) : Prop := ∃ (t n x b a : Addr) (g : V), v = .ref t ∧ SqT K H t [.str u.kind, .ref n, .ref x, .ref b, .ref a, optV u.opens, g] ∧
  SqT K H n (u.needs.map V.str) ∧ SqT K H x (u.wants.map V.str) ∧ SqT K H b (u.bars.map V.str) ∧ SqT K H a (u.after.map V.str) ∧ FiveAt H g u.five
theorem FactAt.s {H : Hp} {v : V} {u : UF} (h : FactAt H v u) : FactS K H v u := by
  obtain ⟨t, n, x, b, a, g, e, h0, h1, h2, h3, h4, h5⟩ := h
  exact ⟨t, n, x, b, a, g, e, .of h0, .of h1, .of h2, .of h3, .of h4, h5⟩
def sp_law_unit (K : PySem.W.Frag) : Sp := fun vs H Q _ => ∃ (w : Str) (d : Addr) (v : V) (u : UF), vs = [.str w, .ref d] ∧ DGet H d (.str w) (some v) ∧ FactS K H v u ∧
  ∀ p H', H p = none → Same H H' → UnitAt K H' p w u → Q (.ref p) H'
theorem ok_law_unit (T : Txt K mg) : FnOk P w K mg base CX0 4 (He.fAd K ("_law_unit", none)) T.d_law_unit ["_law_word", "_law_facts_here"] (sp_law_unit K) := by
  refine T.F_law_unit.ok sc_law_unit (fun vs H Q E h => ?_) (fun cdv A outer s H vs Q E hr h => ?_)
  · obtain ⟨w, d, v, u, rfl, _⟩ := h
    rfl
  · obtain ⟨w, d, v, u, rfl, hd, hF, q⟩ := h
    refine ⟨_, PSs.nox (pss_cons (ps_asg (pe_dget (hu_of hr) (pv 1) (pv 0) (fun _ _ => rfl)) (pg_tup rfl (pgs_cons (pg_name (i := 2) sc_law_unit.nd rfl (Or.inl rfl)) (pgs_cons (pg_name (i := 3) sc_law_unit.nd rfl (Or.inl rfl)) (pgs_cons (pg_name (i := 4) sc_law_unit.nd rfl (Or.inl rfl)) (pgs_cons (pg_name (i := 5) sc_law_unit.nd rfl (Or.inl rfl)) (pgs_cons (pg_name (i := 6) sc_law_unit.nd rfl (Or.inl rfl)) (pgs_cons (pg_name (i := 7) sc_law_unit.nd rfl (Or.inl rfl)) (pgs_cons (pg_name (i := 8) sc_law_unit.nd rfl (Or.inl rfl)) pgs_nil)))))))))
      (pss_cons (ps_set (i := 9) sc_law_unit.nd rfl (Or.inl rfl) (pe_mid (pe_ifExp (pt_cmpR op_isN (pv 8) pe_non (nomark _)) pe_non (pe_call (ok_law_rule T) (hr.mono (by decide)) (by rfl) T.m_law_rule T.F_law_rule.kp T.b_law_rule .nil pass0 (pa_cons (pv 8) pa_nil)))))
      (pss_one (ps_ret (pe_makeK T.mk_Unit (ok_Unit_init T) (hr.mono (by decide)) (by rfl) T.m_Unit T.kb_Unit_init_2_kind_needs_wants_bars_after_opens_rule.choose_spec pass0 (pa_cons (pv 0) pa_nil) (pk_cons (pv 2) (pk_cons (pv 3) (pk_cons (pv 4) (pk_cons (pv 5) (pk_cons (pv 6) (pk_cons (pv 7) (pk_cons (pv 9) pk_nil)))))))))))), ?_⟩
    obtain ⟨t, n, x, b, a, g, rfl, wt, wn, wx, wb, wa, hg⟩ := hF
    refine ⟨_, rfl, _, rfl, d, _, rfl, hd, t, _, rfl, wt, rfl, _, _, rfl, _, _, rfl, _, _, rfl, _, _, rfl, _, _, rfl, _, _, rfl, _, _, rfl, rfl, ?_⟩
    refine ⟨fun v H' => Same H H' ∧ RuleOpt K H' v u.five, ?_, ?_⟩
    · refine ⟨_, rfl, rfl, _, rfl, ?_⟩
      cases h5 : u.five with
      | none =>
        rw [h5] at hg
        cases (show g = .non from hg)
        exact iteYd rfl ⟨Same.refl _, rfl⟩
      | some o =>
        obtain ⟨f, m, tp, br, sn⟩ := o
        rw [h5] at hg
        obtain ⟨v5, rfl, w5, F⟩ := hg
        refine iteNd (fun z => nomatch z) ⟨_, rfl, v5, f, m, tp, br, sn, rfl, SqT.of w5, fun r H' nr s' hr => ⟨s', r, rfl, hr⟩⟩
    rintro rv H1 ⟨s1, hr⟩
    refine ⟨_, rfl, _, rfl, _, rfl, _, rfl, _, rfl, _, rfl, _, rfl, _, rfl, rfl, rfl, fun p dx np nd ne => ?_⟩
    refine ⟨p, dx, _, _, _, _, _, _, _, _, rfl, upd_same, fun H' wp kp => ⟨rfl, ?_⟩⟩
    have s2 : Same H1 H' := Same.made np nd fun b o e n => kp b o e n
    have s3 := s1.trans s2
    exact q p H' (s1.free np) s3 ⟨dx, n, x, b, a, rv, wp, tup_same s3 wn, tup_same s3 wx, tup_same s3 wb, tup_same s3 wa, RuleOpt.same hr s2⟩
theorem UnitAt.same {H H' : Hp} {p : Addr} {w : Str} {u : UF} (h : UnitAt K H p w u) (s : Same H H') : UnitAt K H' p w u := by
  obtain ⟨dx, n, x, b, a, r, h0, h1, h2, h3, h4, h5⟩ := h
  exact ⟨dx, n, x, b, a, r, s _ _ h0, tup_same s h1, tup_same s h2, tup_same s h3, tup_same s h4, h5.same s⟩
theorem UnitAt.keep {H H' : Hp} {p q : Addr} {w : Str} {u : UF} {n : Nat} (h : UnitAt K H p w u) (k : Kp q H H') (B : Bag n H q) : UnitAt K H' p w u := by
  obtain ⟨_, _, _, hq, _⟩ := B.ex
  have nt := NotTp.lst hq
  obtain ⟨dx, n, x, b, a, r, h0, h1, h2, h3, h4, h5⟩ := h
  exact ⟨dx, n, x, b, a, r, k _ _ h0 (fun e => by rw [e, hq] at h0; cases h0), k.tup nt h1, k.tup nt h2, k.tup nt h3, k.tup nt h4, h5.keep k fun C dx fs e => by rw [hq] at e; cases e⟩

-- SPLIT
/-! ### rules are equal just where all five are -/

/-- what == of a rule and a thing comes to -/
def sp_Rule_eq (K : PySem.W.Frag) : Sp := fun vs H Q _ => ∃ (a : Addr) (f m t b s : Int) (y : V), vs = [.ref a, y] ∧ RuleAt K H a f m t b s ∧
  ((∃ (c : Addr) (f' m' t' b' s' : Int), y = .ref c ∧ RuleAt K H c f' m' t' b' s' ∧ Q (.bl (decide (f = f' ∧ m = m' ∧ t = t' ∧ b = b' ∧ s = s'))) H) ∨ (∃ T, UO.plainTy H K y T ∧ Q (.bl false) H) ∨ ∃ t, TyX K H y t ∧ PySem.W.kitOne K t (.ref (He.ga K "Rule")) = some false ∧ Q (.bl false) H)
theorem dec_int {i j : Int} : decide (V.int i = V.int j) = decide (i = j) := decide_eq_decide.mpr ⟨fun e => by cases e; rfl, fun e => by rw [e]⟩
theorem ok_Rule_eq (T : Txt K mg) : FnOk P w K mg base CX0 1 (He.fAd K ("Rule", some "__eq__")) T.d_Rule_eq ["self", "other"] (sp_Rule_eq K) := by
  refine T.F_Rule_eq.ok sc_Rule_eq (fun vs H Q E h => ?_) (fun cdv A outer s H vs Q E hr h => ?_)
  · obtain ⟨a, f, m, t, b, s, y, rfl, _⟩ := h
    rfl
  · obtain ⟨a, f, m, t, b, s, y, rfl, ⟨dx, ha⟩, h⟩ := h
    refine ⟨_, PSs.nox (pss_one (ps_ret (pe_mid (pe_and (pe_callB (id := "isinstance")  call_isi (by rfl) T.n_isinstance (by decide +kernel) (pa_cons (pv 1) (pa_cons (pe_glob (v := .ref (He.ga K "Rule")) (by rfl) T.m_Rule rfl) pa_nil))) (pe_and (pe_cmpR op_eq (pe_fld (pv 0) rfl) (pe_fld (pv 1) rfl) (nomark _)) (pe_and (pe_cmpR op_eq (pe_fld (pv 0) rfl) (pe_fld (pv 1) rfl) (nomark _)) (pe_and (pe_cmpR op_eq (pe_fld (pv 0) rfl) (pe_fld (pv 1) rfl) (nomark _)) (pe_and (pe_cmpR op_eq (pe_fld (pv 0) rfl) (pe_fld (pv 1) rfl) (nomark _)) (pe_one (pe_cmpR op_eq (pe_fld (pv 0) rfl) (pe_fld (pv 1) rfl) (nomark _))))))))))), ?_⟩
    rcases h with ⟨c, f', m', t', b', s', rfl, ⟨dc, hc⟩, q⟩ | ⟨Ty, pt, q⟩ | ⟨ty, tx, hk, q⟩
    · refine ⟨fun v H' => H' = H ∧ v = .bl (decide (f = f' ∧ m = m' ∧ t = t' ∧ b = b' ∧ s = s')), ?_, ?_⟩
      · refine ⟨_, rfl, _, _, _, _, true, rfl, .own _, T.ix_Rule.ty T.cl_Rule hc, UO.kit_self _ _, _, rfl, ?_⟩
        refine iteT ?_
        refine ⟨_, rfl, a, _, dx, _, _, rfl, ha, T.cl_Rule, T.na_Rule_first, rfl, _, rfl, c, _, dc, _, _, rfl, hc, T.cl_Rule, T.na_Rule_first, rfl, rfl, _, rfl, ?_⟩
        rw [dec_int]
        refine ite2 (fun h1 => ?_) (fun h1 => ?_)
        · have h1 := of_decide_eq_true h1
          refine ⟨_, rfl, a, _, dx, _, _, rfl, ha, T.cl_Rule, T.na_Rule_times, rfl, _, rfl, c, _, dc, _, _, rfl, hc, T.cl_Rule, T.na_Rule_times, rfl, rfl, _, rfl, ?_⟩
          rw [dec_int]
          refine ite2 (fun h2 => ?_) (fun h2 => ?_)
          · have h2 := of_decide_eq_true h2
            refine ⟨_, rfl, a, _, dx, _, _, rfl, ha, T.cl_Rule, T.na_Rule_top, rfl, _, rfl, c, _, dc, _, _, rfl, hc, T.cl_Rule, T.na_Rule_top, rfl, rfl, _, rfl, ?_⟩
            rw [dec_int]
            refine ite2 (fun h3 => ?_) (fun h3 => ?_)
            · have h3 := of_decide_eq_true h3
              refine ⟨_, rfl, a, _, dx, _, _, rfl, ha, T.cl_Rule, T.na_Rule_burst, rfl, _, rfl, c, _, dc, _, _, rfl, hc, T.cl_Rule, T.na_Rule_burst, rfl, rfl, _, rfl, ?_⟩
              rw [dec_int]
              refine ite2 (fun h4 => ?_) (fun h4 => ?_)
              · have h4 := of_decide_eq_true h4
                refine ⟨_, rfl, a, _, dx, _, _, rfl, ha, T.cl_Rule, T.na_Rule_span, rfl, _, rfl, c, _, dc, _, _, rfl, hc, T.cl_Rule, T.na_Rule_span, rfl, rfl, rfl, ?_⟩
                rw [dec_int]
                exact congrArg V.bl (decide_eq_decide.mpr ⟨fun z => ⟨h1, h2, h3, h4, z⟩, fun z => z.2.2.2.2⟩)
              · exact ⟨rfl, congrArg V.bl (decide_eq_false fun z => h4 (decide_eq_true z.2.2.2.1)).symm⟩
            · exact ⟨rfl, congrArg V.bl (decide_eq_false fun z => h3 (decide_eq_true z.2.2.1)).symm⟩
          · exact ⟨rfl, congrArg V.bl (decide_eq_false fun z => h2 (decide_eq_true z.2.1)).symm⟩
        · exact ⟨rfl, congrArg V.bl (decide_eq_false fun z => h1 (decide_eq_true z.1)).symm⟩
      · rintro v H' ⟨rfl, rfl⟩
        exact q
    · obtain ⟨ty, hT⟩ := UO.plain_ty pt
      refine ⟨fun v H' => H' = H ∧ v = .bl false, ?_, ?_⟩
      · refine ⟨_, rfl, _, _, _, _, false, rfl, .own _, ty, T.ix_Rule.kit _ hT, _, rfl, ?_⟩
        exact iteF ⟨rfl, rfl⟩
      · rintro v H' ⟨rfl, rfl⟩
        exact q
    · refine ⟨fun v H' => H' = H ∧ v = .bl false, ?_, ?_⟩
      · refine ⟨_, rfl, _, _, _, _, false, rfl, .own _, tx, hk, _, rfl, ?_⟩
        exact iteF ⟨rfl, rfl⟩
      · rintro v H' ⟨rfl, rfl⟩
        exact q

/-! ### units are equal just where all eight are -/
/-- all names of a unit are texts that can be laid -/
def UStr (u : UF) : Prop := ∀ x ∈ u.needs ++ u.wants ++ u.bars ++ u.after, PyData.strOk x = true
/-- what == of a unit and a thing comes to -/
def sp_Unit_eq (K : PySem.W.Frag) : Sp := fun vs H Q _ => ∃ (p : Addr) (w : Str) (u : UF) (y : V), vs = [.ref p, y] ∧ UnitAt K H p w u ∧ UStr u ∧
  ((∃ (c : Addr) (w' : Str) (u' : UF), y = .ref c ∧ UnitAt K H c w' u' ∧ UStr u' ∧ Q (.bl (decide (w = w' ∧ u = u'))) H) ∨ (∃ T, UO.plainTy H K y T ∧ Q (.bl false) H) ∨ (∃ (r : Addr) (f m t b s : Int), y = .ref r ∧ RuleAt K H r f m t b s ∧ Q (.bl false) H))
theorem ok_Unit_eq (T : Txt K mg) : FnOk P w K mg base CX0 5 (He.fAd K ("Unit", some "__eq__")) T.d_Unit_eq ["self", "other"] (sp_Unit_eq K) := by
  refine T.F_Unit_eq.ok sc_Unit_eq (fun vs H Q E h => ?_) (fun cdv A outer s H vs Q E hr h => ?_)
  · obtain ⟨p, w, u, y, rfl, _⟩ := h
    rfl
  · obtain ⟨p, w, u, y, rfl, hp, hU, h⟩ := h
    refine ⟨_, PSs.nox (pss_one (ps_ret (pe_mid (pe_and (pe_callB (id := "isinstance")  call_isi (by rfl) T.n_isinstance (by decide +kernel) (pa_cons (pv 1) (pa_cons (pe_glob (v := .ref (He.ga K "Unit")) (by rfl) T.m_Unit rfl) pa_nil))) (pe_and (pe_cmpR op_eq (pe_fld (pv 0) rfl) (pe_fld (pv 1) rfl) (nomark _)) (pe_and (pe_cmpR op_eq (pe_fld (pv 0) rfl) (pe_fld (pv 1) rfl) (nomark _)) (pe_and (pe_cmpR (op_eqD hr.units) (pe_fld (pv 0) rfl) (pe_fld (pv 1) rfl) (nomark _)) (pe_and (pe_cmpR (op_eqD hr.units) (pe_fld (pv 0) rfl) (pe_fld (pv 1) rfl) (nomark _)) (pe_and (pe_cmpR (op_eqD hr.units) (pe_fld (pv 0) rfl) (pe_fld (pv 1) rfl) (nomark _)) (pe_and (pe_cmpR (op_eqD hr.units) (pe_fld (pv 0) rfl) (pe_fld (pv 1) rfl) (nomark _)) (pe_and (pe_cmpR op_eq (pe_fld (pv 0) rfl) (pe_fld (pv 1) rfl) (nomark _)) (pe_one (pe_cmpR (UO.op_or op_eq (UO.op_or (UO.op_rc (UO.rc_left (ok_Rule_eq T) T.me_Rule_eq.at_ T.me_Rule_eq.fn T.b_Rule_eq pass0) (hr.mono (by decide))) (UO.op_rc (UO.rc_right (ok_Rule_eq T) T.me_Rule_eq.at_ T.me_Rule_eq.fn T.b_Rule_eq pass0) (hr.mono (by decide))))) (pe_fld (pv 0) rfl) (pe_fld (pv 1) rfl) (nomark _)))))))))))))), ?_⟩
    obtain ⟨dx, an, ax, ab, aa, r, hp0, hn, hx, hb, ha, hr5⟩ := hp
    rcases h with ⟨c, w', u', rfl, hc, hU', q⟩ | ⟨Ty, pt, q⟩ | ⟨r', f, m, t, b, s, rfl, ⟨dr, hr'⟩, q⟩
    · obtain ⟨dc, cn, cx, cb, ca, r', hc0, gn, gx, gb, ga, gr5⟩ := hc
      have okn : ∀ x ∈ u.needs, PyData.strOk x = true := fun x h => hU x (List.mem_append_left _ (List.mem_append_left _ (List.mem_append_left _ h)))
      have okx : ∀ x ∈ u.wants, PyData.strOk x = true := fun x h => hU x (List.mem_append_left _ (List.mem_append_left _ (List.mem_append_right _ h)))
      have okb : ∀ x ∈ u.bars, PyData.strOk x = true := fun x h => hU x (List.mem_append_left _ (List.mem_append_right _ h))
      have oka : ∀ x ∈ u.after, PyData.strOk x = true := fun x h => hU x (List.mem_append_right _ h)
      have okn' : ∀ x ∈ u'.needs, PyData.strOk x = true := fun x h => hU' x (List.mem_append_left _ (List.mem_append_left _ (List.mem_append_left _ h)))
      have okx' : ∀ x ∈ u'.wants, PyData.strOk x = true := fun x h => hU' x (List.mem_append_left _ (List.mem_append_left _ (List.mem_append_right _ h)))
      have okb' : ∀ x ∈ u'.bars, PyData.strOk x = true := fun x h => hU' x (List.mem_append_left _ (List.mem_append_right _ h))
      have oka' : ∀ x ∈ u'.after, PyData.strOk x = true := fun x h => hU' x (List.mem_append_right _ h)
      refine ⟨fun v H' => H' = H ∧ v = .bl (decide (w = w' ∧ u = u')), ?_, ?_⟩
      · refine ⟨_, rfl, _, _, _, _, true, rfl, .own _, T.ix_Unit.ty T.cl_Unit hc0, UO.kit_self _ _, _, rfl, ?_⟩
        refine iteT ?_
        refine ⟨_, rfl, p, _, dx, _, _, rfl, hp0, T.cl_Unit, T.na_Unit_name, rfl, _, rfl, c, _, dc, _, _, rfl, hc0, T.cl_Unit, T.na_Unit_name, rfl, rfl, _, rfl, ?_⟩
        rw [UW.dec_str]
        refine ite2 (fun h1 => ?_) (fun h1 => ⟨rfl, congrArg V.bl (decide_eq_false fun z => h1 (decide_eq_true z.1)).symm⟩)
        refine ⟨_, rfl, p, _, dx, _, _, rfl, hp0, T.cl_Unit, T.na_Unit_kind, rfl, _, rfl, c, _, dc, _, _, rfl, hc0, T.cl_Unit, T.na_Unit_kind, rfl, rfl, _, rfl, ?_⟩
        rw [UW.dec_str]
        refine ite2 (fun h2 => ?_) (fun h2 => ⟨rfl, congrArg V.bl (decide_eq_false fun z => h2 (decide_eq_true (congrArg UF.kind z.2))).symm⟩)
        refine ⟨_, rfl, p, _, dx, _, _, rfl, hp0, T.cl_Unit, T.na_Unit_needs, rfl, _, rfl, c, _, dc, _, _, rfl, hc0, T.cl_Unit, T.na_Unit_needs, rfl, eqD_strsT hn gn okn okn' ⟨_, rfl, ?_⟩⟩
        refine ite2 (fun h3 => ?_) (fun h3 => ⟨rfl, congrArg V.bl (decide_eq_false fun z => h3 (decide_eq_true (congrArg UF.needs z.2))).symm⟩)
        refine ⟨_, rfl, p, _, dx, _, _, rfl, hp0, T.cl_Unit, T.na_Unit_wants, rfl, _, rfl, c, _, dc, _, _, rfl, hc0, T.cl_Unit, T.na_Unit_wants, rfl, eqD_strsT hx gx okx okx' ⟨_, rfl, ?_⟩⟩
        refine ite2 (fun h4 => ?_) (fun h4 => ⟨rfl, congrArg V.bl (decide_eq_false fun z => h4 (decide_eq_true (congrArg UF.wants z.2))).symm⟩)
        refine ⟨_, rfl, p, _, dx, _, _, rfl, hp0, T.cl_Unit, T.na_Unit_bars, rfl, _, rfl, c, _, dc, _, _, rfl, hc0, T.cl_Unit, T.na_Unit_bars, rfl, eqD_strsT hb gb okb okb' ⟨_, rfl, ?_⟩⟩
        refine ite2 (fun h5 => ?_) (fun h5 => ⟨rfl, congrArg V.bl (decide_eq_false fun z => h5 (decide_eq_true (congrArg UF.bars z.2))).symm⟩)
        refine ⟨_, rfl, p, _, dx, _, _, rfl, hp0, T.cl_Unit, T.na_Unit_after, rfl, _, rfl, c, _, dc, _, _, rfl, hc0, T.cl_Unit, T.na_Unit_after, rfl, eqD_strsT ha ga oka oka' ⟨_, rfl, ?_⟩⟩
        refine ite2 (fun h6 => ?_) (fun h6 => ⟨rfl, congrArg V.bl (decide_eq_false fun z => h6 (decide_eq_true (congrArg UF.after z.2))).symm⟩)
        refine ⟨_, rfl, p, _, dx, _, _, rfl, hp0, T.cl_Unit, T.na_Unit_opens, rfl, _, rfl, c, _, dc, _, _, rfl, hc0, T.cl_Unit, T.na_Unit_opens, rfl, scal_optV _ _, _, rfl, ?_⟩
        rw [dec_optV]
        refine ite2 (fun h7 => ?_) (fun h7 => ⟨rfl, congrArg V.bl (decide_eq_false fun z => h7 (decide_eq_true (congrArg UF.opens z.2))).symm⟩)
        have hall : (w = w' ∧ u = u') ↔ u.five = u'.five := by
          refine ⟨fun z => congrArg UF.five z.2, fun z => ⟨of_decide_eq_true h1, ?_⟩⟩
          have h2 := of_decide_eq_true h2
          have h3 := of_decide_eq_true h3
          have h4 := of_decide_eq_true h4
          have h5 := of_decide_eq_true h5
          have h6 := of_decide_eq_true h6
          have h7 := of_decide_eq_true h7
          cases u
          cases u'
          cases h2
          cases h3
          cases h4
          cases h5
          cases h6
          cases h7
          cases z
          rfl
        rw [decide_eq_decide.mpr hall]
        refine ⟨_, rfl, p, _, dx, _, _, rfl, hp0, T.cl_Unit, T.na_Unit_rule, rfl, _, rfl, c, _, dc, _, _, rfl, hc0, T.cl_Unit, T.na_Unit_rule, rfl, ?_⟩
        obtain ⟨o1, ho1⟩ : ∃ o, u.five = o := ⟨_, rfl⟩
        obtain ⟨o2, ho2⟩ : ∃ o, u'.five = o := ⟨_, rfl⟩
        rcases o1 with _ | ⟨f, m, t, b, s⟩
        · rw [ho1] at hr5
          cases (show r = .non from hr5)
          rcases o2 with _ | ⟨f, m, t, b, s⟩
          · rw [ho2] at gr5
            cases (show r' = .non from gr5)
            exact .inl ⟨rfl, rfl, congrArg V.bl (decide_eq_true (ho1.trans ho2.symm)).symm⟩
          · rw [ho2] at gr5
            obtain ⟨a2, rfl, hr2⟩ := gr5
            obtain ⟨d2, hr2'⟩ := hr2
            have hne : ¬ u.five = u'.five := fun e => by rw [ho1, ho2] at e; cases e
            exact .inr (.inr ⟨a2, d2, _, "NoneType", rfl, hr2', rfl, T.ix_Rule.sub _ (by decide), a2, f, m, t, b, s, _, rfl, ⟨d2, hr2'⟩, .inr (.inl ⟨"NoneType", rfl, false, rfl, rfl, congrArg V.bl (decide_eq_false hne).symm⟩)⟩)
        · rw [ho1] at hr5
          obtain ⟨a1, rfl, hr1⟩ := hr5
          obtain ⟨d1, hr1'⟩ := hr1
          rcases o2 with _ | ⟨f', m', t', b', s'⟩
          · rw [ho2] at gr5
            cases (show r' = .non from gr5)
            have hne : ¬ u.five = u'.five := fun e => by rw [ho1, ho2] at e; cases e
            exact .inr (.inl ⟨a1, d1, _, _, rfl, hr1', .base .non, T.ix_Rule.first (by decide), a1, f, m, t, b, s, _, rfl, ⟨d1, hr1'⟩, .inr (.inl ⟨"NoneType", rfl, false, rfl, rfl, congrArg V.bl (decide_eq_false hne).symm⟩)⟩)
          · rw [ho2] at gr5
            obtain ⟨a2, rfl, hr2⟩ := gr5
            obtain ⟨d2, hr2'⟩ := hr2
            refine .inr (.inl ⟨a1, d1, _, _, rfl, hr1', T.ix_Rule.ty T.cl_Rule hr2', UO.first_self _ _, a1, f, m, t, b, s, _, rfl, ⟨d1, hr1'⟩, .inl ⟨a2, f', m', t', b', s', rfl, ⟨d2, hr2'⟩, _, rfl, rfl, congrArg V.bl (decide_eq_decide.mpr ⟨?_, ?_⟩)⟩⟩)
            · rintro ⟨rfl, rfl, rfl, rfl, rfl⟩
              exact ho1.trans ho2.symm
            · intro e
              rw [ho1, ho2] at e
              cases e
              exact ⟨rfl, rfl, rfl, rfl, rfl⟩
      · rintro v H' ⟨rfl, rfl⟩
        exact q
    · obtain ⟨ty, hT⟩ := UO.plain_ty pt
      refine ⟨fun v H' => H' = H ∧ v = .bl false, ?_, ?_⟩
      · refine ⟨_, rfl, _, _, _, _, false, rfl, .own _, ty, T.ix_Unit.kit _ hT, _, rfl, ?_⟩
        exact iteF ⟨rfl, rfl⟩
      · rintro v H' ⟨rfl, rfl⟩
        exact q
    · refine ⟨fun v H' => H' = H ∧ v = .bl false, ?_, ?_⟩
      · refine ⟨_, rfl, _, _, _, _, false, rfl, .own _, T.ix_Rule.ty T.cl_Rule hr', T.px_Rule_Unit.kit, _, rfl, ?_⟩
        exact iteF ⟨rfl, rfl⟩
      · rintro v H' ⟨rfl, rfl⟩
        exact q

-- SPLIT
/-! ### texts of a rule -/
abbrev nT (i : Int) : Str := Str.ofString (toString i)
abbrev words (f m t b s : Int) : List Str := [nT f, nT m, nT t, nT b, nT s]
theorem nT_len {i : Int} (h0 : 0 ≤ i) (h1 : i ≤ 1000000) : (nT i).length ≤ 7 := PyProof.Rows.toString_length_le h0 (by decide) (by
  have : (10 : Int) ^ 7 = 10000000 := by decide
  omega)
theorem nT_log {i : Int} (h0 : 0 ≤ i) (h1 : i ≤ 1000000) : i.natAbs.log2 < 1920 := by
  have h : i.natAbs < 2 ^ 20 := by
    have : (2 : Nat) ^ 20 = 1048576 := by decide
    omega
  by_cases hz : i.natAbs = 0
  · rw [hz]
    decide
  · exact Nat.lt_of_lt_of_le ((Nat.log2_lt hz).mpr h) (by decide)
/-- the five of a rule, as they are due: small enough to be written -/
structure Wr (f m t b s : Int) : Prop where
  f0 : 0 ≤ f
  f1 : f ≤ 1000000
  m0 : 0 ≤ m
  m1 : m ≤ 1000000
  t0 : 0 ≤ t
  t1 : t ≤ 1000000
  b0 : 0 ≤ b
  b1 : b ≤ 1000000
  s0 : 0 ≤ s
  s1 : s ≤ 1000000
theorem Five.wr {f m t b s : Int} (F : Five f m t b s) : Wr f m t b s := by
  have := F.f1; have := F.f2; have := F.m1; have := F.m2; have := F.t1; have := F.t2; have := F.b1; have := F.b2; have := F.s1; have := F.s2
  constructor <;> omega
theorem len_app (x y : Str) : (x ++ y).length = x.length + y.length := by
  rw [TL.len_tl, TL.len_tl, TL.len_tl, TL.tl_append, List.length_append]
theorem lit_len1 : (Str.ofString " ").length = 1 := by decide +kernel
theorem lit_len2 : (Str.ofString ", ").length = 2 := by decide +kernel
theorem lit_len3 : (Str.ofString "Rule(").length = 5 := by decide +kernel
theorem lit_len4 : (Str.ofString ")").length = 1 := by decide +kernel
theorem emp_len : (Str.empty).length = 0 := by decide +kernel
theorem line_ok {n : Nat} (h : n ≤ 1000) : n ≤ sizeLine := Nat.le_of_lt (small1000 h)
def sp_Rule_str (K : PySem.W.Frag) : Sp := fun vs H Q _ => ∃ (a : Addr) (f m t b s : Int), vs = [.ref a] ∧ RuleAt K H a f m t b s ∧ Wr f m t b s ∧ Q (.str (Txt.join (Str.ofString " ") (words f m t b s))) H
theorem ok_Rule_str (T : Txt K mg) : FnOk P w K mg base CX0 1 (He.fAd K ("Rule", some "__str__")) T.d_Rule_str ["self"] (sp_Rule_str K) := by
  refine T.F_Rule_str.ok sc_Rule_str (fun vs H Q E h => ?_) (fun cdv A outer s H vs Q E hr h => ?_)
  · obtain ⟨a, f, m, t, b, s, rfl, _⟩ := h
    rfl
  · obtain ⟨a, f, m, t, b, s, rfl, ⟨dx, ha⟩, W, q⟩ := h
    refine ⟨_, PSs.nox (pss_one (ps_ret (pe_joined (PJ.cons (pe_fmt (pe_fld (pv 0) rfl)) (PJ.cons pe_str (PJ.cons (pe_fmt (pe_fld (pv 0) rfl)) (PJ.cons pe_str (PJ.cons (pe_fmt (pe_fld (pv 0) rfl)) (PJ.cons pe_str (PJ.cons (pe_fmt (pe_fld (pv 0) rfl)) (PJ.cons pe_str (PJ.cons (pe_fmt (pe_fld (pv 0) rfl)) PJ.nil)))))))))))), ?_⟩
    have l1 : (Str.ofString (toString f)).length ≤ 7 := nT_len W.f0 W.f1
    have l2 : (Str.ofString (toString m)).length ≤ 7 := nT_len W.m0 W.m1
    have l3 : (Str.ofString (toString t)).length ≤ 7 := nT_len W.t0 W.t1
    have l4 : (Str.ofString (toString b)).length ≤ 7 := nT_len W.b0 W.b1
    have l5 : (Str.ofString (toString s)).length ≤ 7 := nT_len W.s0 W.s1
    refine ⟨_, rfl, a, _, dx, _, _, rfl, ha, T.cl_Rule, T.na_Rule_first, rfl, .inr ⟨f, rfl, nT_log W.f0 W.f1, _, rfl, line_ok (by rw [len_app, emp_len]; omega), _, rfl, line_ok (by rw [len_app, len_app, emp_len, lit_len1]; omega), ?_⟩⟩
    refine ⟨_, rfl, a, _, dx, _, _, rfl, ha, T.cl_Rule, T.na_Rule_times, rfl, .inr ⟨m, rfl, nT_log W.m0 W.m1, _, rfl, line_ok (by simp only [len_app, emp_len, lit_len1]; omega), _, rfl, line_ok (by simp only [len_app, emp_len, lit_len1]; omega), ?_⟩⟩
    refine ⟨_, rfl, a, _, dx, _, _, rfl, ha, T.cl_Rule, T.na_Rule_top, rfl, .inr ⟨t, rfl, nT_log W.t0 W.t1, _, rfl, line_ok (by simp only [len_app, emp_len, lit_len1]; omega), _, rfl, line_ok (by simp only [len_app, emp_len, lit_len1]; omega), ?_⟩⟩
    refine ⟨_, rfl, a, _, dx, _, _, rfl, ha, T.cl_Rule, T.na_Rule_burst, rfl, .inr ⟨b, rfl, nT_log W.b0 W.b1, _, rfl, line_ok (by simp only [len_app, emp_len, lit_len1]; omega), _, rfl, line_ok (by simp only [len_app, emp_len, lit_len1]; omega), ?_⟩⟩
    refine ⟨_, rfl, a, _, dx, _, _, rfl, ha, T.cl_Rule, T.na_Rule_span, rfl, .inr ⟨s, rfl, nT_log W.s0 W.s1, _, rfl, line_ok (by simp only [len_app, emp_len, lit_len1]; omega), ?_⟩⟩
    have e : Txt.join (Str.ofString " ") (words f m t b s) = Str.empty ++ nT f ++ Str.ofString " " ++ nT m ++ Str.ofString " " ++ nT t ++ Str.ofString " " ++ nT b ++ Str.ofString " " ++ nT s := by
      rw [TL.join_eq]
      show nT f ++ Str.ofString " " ++ (nT m ++ Str.ofString " " ++ (nT t ++ Str.ofString " " ++ (nT b ++ Str.ofString " " ++ nT s))) = _
      simp only [Str.empty_append, Str.append_assoc]
    rw [e] at q
    exact q

-- SPLIT
/-! ### words -/
theorem sign_letter {c : Nat} (h0 : 97 ≤ c) (h1 : c ≤ 122) : (!(Builtin.Str.occurrences (Str.ofString "abcdefghijklmnopqrstuvwxyz") (⟨#[c]⟩ : Str) 0 (Str.ofString "abcdefghijklmnopqrstuvwxyz").length 1).isEmpty) = true := by
  have all : ∀ i, i < 26 → (!(Builtin.Str.occurrences (Str.ofString "abcdefghijklmnopqrstuvwxyz") (⟨#[97 + i]⟩ : Str) 0 (Str.ofString "abcdefghijklmnopqrstuvwxyz").length 1).isEmpty) = true := by decide +kernel
  have := all (c - 97) (by omega)
  rwa [show 97 + (c - 97) = c by omega] at this
theorem sign_figure {c : Nat} (h0 : 48 ≤ c) (h1 : c ≤ 57) : (!(Builtin.Str.occurrences (Str.ofString "0123456789") (⟨#[c]⟩ : Str) 0 (Str.ofString "0123456789").length 1).isEmpty) = true := by
  have all : ∀ i, i < 10 → (!(Builtin.Str.occurrences (Str.ofString "0123456789") (⟨#[48 + i]⟩ : Str) 0 (Str.ofString "0123456789").length 1).isEmpty) = true := by decide +kernel
  have := all (c - 48) (by omega)
  rwa [show 48 + (c - 48) = c by omega] at this
theorem all_rep (n : Nat) : (List.replicate n true).all id = true := by
  rw [List.all_eq_true]
  intro b hb
  rw [List.eq_of_mem_replicate hb]
  rfl
theorem rep_snoc (n : Nat) : List.replicate (n + 1) (V.bl true) = List.replicate n (V.bl true) ++ [V.bl true] := List.replicate_succ'
theorem rep_map (n : Nat) : List.replicate n (V.bl true) = (List.replicate n true).map V.bl := (List.map_replicate ..).symm
def sp_is_name (K : PySem.W.Frag) : Sp := fun vs H Q _ => ∃ (w : Str), vs = [.str w] ∧ Nm w ∧ ∀ H', Same H H' → Q (.bl true) H'
theorem ok_is_name (T : Txt K mg) : FnOk P w K mg base CX0 1 (He.fAd K ("is_name", none)) T.d_is_name ["word"] (sp_is_name K) := by
  refine T.F_is_name.ok sc_is_name (fun vs H Q E h => ?_) (fun cdv A outer s H vs Q E hr h => ?_)
  · obtain ⟨w, rfl, _⟩ := h
    rfl
  · obtain ⟨w, rfl, hw, q⟩ := h
    refine ⟨_, PSs.nox (pss_one (ps_ret (pe_mid (pe_and (pe_chain op_le op_le pe_int (pe_callB (id := "len")  call_len_str (by rfl) T.n_len (by decide +kernel) (pa_cons (pv 0) pa_nil)) (pe_glob (v := .int 8) (by rfl) T.c_LONGEST_NAME.choose_spec ⟨_, rfl⟩)) (pe_one (pe_callB (id := "all")  (cr_all rfl) (by rfl) T.n_all (by decide +kernel) (pa_cons (pe_lc (own := [("sign", 1)]) (by rfl) sc_is_name.nd (pi_str (pv 0)) (blkOk_by (own := [("sign", 1)]) (N := N_is_name) (sc := defScope s_is_name) (by decide +kernel)) (fun _ _ _ _ _ => (pg_name (i := 1) sc_is_name.nd rfl (Or.inl rfl))) (fun _ _ _ _ _ => pts_nil) (fun _ _ _ _ _ => (pe_cmpR op_in_str (pv 1) (pe_glob (v := .str "abcdefghijklmnopqrstuvwxyz") (by rfl) T.c_LETTERS.choose_spec ⟨_, rfl⟩) (by rfl)))) pa_nil))))))), ?_⟩
    obtain ⟨sg, l0, l8⟩ := hw
    have wl : w.cps.size = w.length := rfl
    refine ⟨fun v H' => v = .bl true ∧ Same H H', ?_, ?_⟩
    · refine ⟨_, rfl, _, rfl, line_ok (by omega), _, _, rfl, rfl, _, rfl, iteYd (by omega) ?_⟩
      refine ⟨_, _, rfl, rfl, ?_⟩
      refine ⟨_, rfl, iteYd (by omega) ?_⟩
      refine ⟨_, rfl, _, rfl, fun D nD => ?_⟩
      refine lc_it (walk_str (z := w)) (fun j H' => Same H H' ∧ H' D = some (.lst (List.replicate j (V.bl true)))) ⟨same_upd nD, upd_same⟩ (fun _ _ _ _ => trivial) ?_ ?_
      · rintro j x H3 H3' hj ⟨s3, w3⟩ ⟨rfl, c, hc', rfl⟩
        have hm := sg c (Array.mem_def.mp (Array.mem_of_getElem? hc'))
        refine ⟨rfl, yes_of (iteT ?_)⟩
        refine ⟨_, rfl, _, _, rfl, rfl, _, w3, ?_, Same.own (q := D) (H1 := H3') s3 (mut_keep rfl) nD, ?_⟩
        · rw [List.length_replicate]
          exact small1000 (by omega)
        · rw [upd_same, rep_snoc, sign_letter hm.1 hm.2]
      rintro H3 ⟨s3, w3⟩
      rw [rep_map] at w3
      refine ⟨D, _, rfl, SqL.of w3, ?_⟩
      rw [all_rep]
      exact ⟨rfl, s3⟩
    · rintro v H' ⟨rfl, s'⟩
      exact q H' s'
open TL in
theorem num_len (n k : Nat) (hk : 0 < k) (h : n < 10 ^ k) : (numL n).length ≤ k := by
  induction k generalizing n with
  | zero => omega
  | succ k ih =>
    by_cases c : n < 10
    · rw [numL_lt c]
      exact Nat.succ_le_succ (Nat.zero_le _)
    · rw [numL_step (by omega), List.length_append]
      have k0 : 0 < k := by
        cases k with
        | zero => omega
        | succ k => omega
      have := ih (n / 10) k0 (by rw [Nat.pow_succ] at h; omega)
      simp only [List.length_cons, List.length_nil]
      omega
open TL in
theorem num_head (n : Nat) : 10 ≤ n → ∀ c, (numL n).head? = some c → c ≠ 48 := by
  have key : ∀ n, 1 ≤ n → ∀ c, (numL n).head? = some c → c ≠ 48 := fun n => by
    induction n using Nat.strongRecOn with
    | _ n ih =>
      intro h c hc
      by_cases lt : n < 10
      · rw [numL_lt lt] at hc
        cases hc
        omega
      · obtain ⟨x, r, e⟩ : ∃ x r, numL (n / 10) = x :: r := List.exists_cons_of_ne_nil (numL_ne _)
        rw [numL_step (by omega), e] at hc
        cases hc
        exact ih (n / 10) (by omega) (by omega) _ (by rw [e]; rfl)
  exact fun h => key n (by omega)
def sp_number_in (K : PySem.W.Frag) : Sp := fun vs H Q _ => ∃ (n : Nat), vs = [.str (Str.ofString (toString ((n : Nat) : Int)))] ∧ n ≤ 1000000 ∧ ∀ H', Same H H' → Q (.int n) H'
theorem ok_number_in (T : Txt K mg) : FnOk P w K mg base CX0 1 (He.fAd K ("number_in", none)) T.d_number_in ["word"] (sp_number_in K) := by
  refine T.F_number_in.ok sc_number_in (fun vs H Q E h => ?_) (fun cdv A outer s H vs Q E hr h => ?_)
  · obtain ⟨n, rfl, _⟩ := h
    rfl
  · obtain ⟨n, rfl, hn, q⟩ := h
    refine ⟨_, PSs.nox (pss_cons (ps_if (PW.pt (pw_or (pt_not (pt_chain op_le op_le pe_int (pe_callB (id := "len")  call_len_str (by rfl) T.n_len (by decide +kernel) (pa_cons (pv 0) pa_nil)) (pe_glob (v := .int 7) (by rfl) T.c_LONGEST_NUMBER.choose_spec ⟨_, rfl⟩))) (pw_or1 (pt_not (pt_val (pe_callB (id := "all")  (cr_all rfl) (by rfl) T.n_all (by decide +kernel) (pa_cons (pe_lc (own := [("sign", 1)]) (by rfl) sc_number_in.nd (pi_str (pv 0)) (blkOk_by (own := [("sign", 1)]) (N := N_number_in) (sc := defScope s_number_in) (by decide +kernel)) (fun _ _ _ _ _ => (pg_name (i := 1) sc_number_in.nd rfl (Or.inl rfl))) (fun _ _ _ _ _ => pts_nil) (fun _ _ _ _ _ => (pe_cmpR op_in_str (pv 1) (pe_glob (v := .str "0123456789") (by rfl) T.c_FIGURES.choose_spec ⟨_, rfl⟩) (by rfl)))) pa_nil)))))))
      (pss_one (ps_ret pe_non))
      pss_nil)
      (pss_cons (ps_if (PW.pt (pw_and (pt_cmpR op_gt (pe_callB (id := "len")  call_len_str (by rfl) T.n_len (by decide +kernel) (pa_cons (pv 0) pa_nil)) pe_int (nomark _)) (pw_and1 (pt_val (pe_m1 F.slot_str_startswith F.type_str_startswith mt_startswith (pv 0) pe_str)))))
      (pss_one (ps_ret pe_non))
      pss_nil)
      (pss_one (ps_ret (pe_callTy (T := "int")  call_int_str (by rfl) T.n_int (by decide +kernel) (pa_cons (pv 0) pa_nil)))))), ?_⟩
    have ht : TL.tl (Str.ofString (toString ((n : Nat) : Int))) = TL.numL n := TL.tl_num n
    have hlen : (Str.ofString (toString ((n : Nat) : Int))).length = (TL.numL n).length := by rw [TL.len_tl, ht]
    have l7 : (TL.numL n).length ≤ 7 := num_len n 7 (by decide) (by omega)
    have l0 : 0 < (TL.numL n).length := List.length_pos_iff.mpr (TL.numL_ne n)
    have hit : PySem.intText? (Str.ofString (toString ((n : Nat) : Int))) = some (n : Int) := TL.int_num (by omega)
    have hst : 1 < (TL.numL n).length → Txt.startswith (Str.ofString (toString ((n : Nat) : Int))) (Str.ofString "0") = false := fun h2 => by
      obtain ⟨x, r, e⟩ : ∃ x r, TL.numL n = x :: r := List.exists_cons_of_ne_nil (TL.numL_ne _)
      have n10 : 10 ≤ n := Classical.byContradiction fun c => by
        rw [TL.numL_lt (by omega)] at h2
        simp at h2
      have nx := num_head n n10 x (by rw [e]; rfl)
      have t0 : TL.tl (Str.ofString "0") = [48] := by decide +kernel
      unfold Txt.startswith
      have no : Builtin.Str.subAt (Str.ofString (toString ((n : Nat) : Int))) (Str.ofString "0") 0 = false := by
        rw [StrLaws.subAt_eq]
        show (((TL.tl (Str.ofString (toString ((n : Nat) : Int)))).drop 0).take (Str.ofString "0").length == TL.tl (Str.ofString "0")) = false
        rw [ht, t0, e, show (Str.ofString "0").length = 1 by decide +kernel]
        show ([x] == [48]) = false
        exact beq_eq_false_iff_ne.mpr fun z => nx (by injection z)
      rw [no, Bool.and_false]
    generalize Str.ofString (toString ((n : Nat) : Int)) = w at ht hlen hit hst
    refine ⟨_, rfl, _, rfl, line_ok (by omega), _, _, rfl, rfl, _, rfl, iteYd (by omega) ?_⟩
    refine ⟨_, _, rfl, rfl, ?_⟩
    refine ⟨_, rfl, ?_⟩
    rw [decide_eq_true (show ((w.length : Nat) : Int) ≤ 7 by omega)]
    refine iteF ?_
    have wl : w.cps.size = w.length := rfl
    refine ⟨_, rfl, _, rfl, fun D nD => ?_⟩
    refine lc_it (walk_str (z := w)) (fun j H' => Same H H' ∧ H' D = some (.lst (List.replicate j (V.bl true)))) ⟨same_upd nD, upd_same⟩ (fun _ _ _ _ => trivial) ?_ ?_
    · rintro j x H3 H3' hj ⟨s3, w3⟩ ⟨rfl, c, hc', rfl⟩
      have hm : 48 ≤ c ∧ c ≤ 57 := TL.numL_digits n c (by rw [← ht]; exact Array.mem_def.mp (Array.mem_of_getElem? hc'))
      refine ⟨rfl, yes_of (iteT ?_)⟩
      refine ⟨_, rfl, _, _, rfl, rfl, _, w3, ?_, Same.own (q := D) (H1 := H3') s3 (mut_keep rfl) nD, ?_⟩
      · rw [List.length_replicate]
        exact small1000 (by omega)
      · rw [upd_same, rep_snoc, sign_figure hm.1 hm.2]
    rintro H3 ⟨s3, w3⟩
    rw [rep_map] at w3
    refine ⟨D, _, rfl, SqL.of w3, ?_⟩
    rw [all_rep]
    refine ⟨_, rfl, iteF ?_⟩
    refine ⟨_, rfl, _, rfl, line_ok (by omega), _, _, rfl, rfl, _, rfl, ?_⟩
    by_cases c : 1 < (TL.numL n).length
    · refine iteYd (by omega) ?_
      refine ⟨_, rfl, ⟨_, rfl⟩, w, Str.ofString "0", rfl, rfl, ?_⟩
      rw [hst c]
      exact ⟨_, rfl, iteF ⟨_, rfl, w, n, rfl, hit, by omega, q H3 s3⟩⟩
    · refine iteNd (by omega) ?_
      exact iteF ⟨_, rfl, w, n, rfl, hit, by omega, q H3 s3⟩

-- SPLIT
/-! ### a unit's text -/
abbrev spS : Str := Str.ofString " "
abbrev nlS : Str := Str.ofString "\n"
def rowS (ws : List Str) : Str := Txt.join spS ws
/-- the row of a list of names, where there are any -/
def rowL (h : Str) (xs : List Str) : List (List Str) := if xs = [] then [] else [h :: xs]
def rowO (o : Option Str) : List (List Str) := match o with
  | some g => [[Str.ofString "opens", g]]
  | none => []
def rowF (o : Option (Int × Int × Int × Int × Int)) : List (List Str) := match o with
  | some (f, m, t, b, s) => [Str.ofString "rule" :: words f m t b s]
  | none => []
def behindRows (u : UF) : List (List Str) := rowL (Str.ofString "needs") u.needs ++ rowL (Str.ofString "wants") u.wants ++ rowL (Str.ofString "bars") u.bars ++ rowL (Str.ofString "after") u.after ++ rowO u.opens ++ rowF u.five
def unitRows (w : Str) (u : UF) : List (List Str) := [Str.ofString "unit", w, u.kind] :: behindRows u
def unitText (w : Str) (u : UF) : Str := Txt.join nlS ((unitRows w u).map rowS)
/-- what can be written so and read back -/
structure Tx (w : Str) (u : UF) : Prop where
  nm : Nm w
  kd : u.kind = Str.ofString "work" ∨ u.kind = Str.ofString "goal" ∨ u.kind = Str.ofString "door"
  named : ∀ x ∈ u.named, Nm x ∧ x ≠ w
  nN : u.needs.Nodup
  nW : u.wants.Nodup
  nB : u.bars.Nodup
  nA : u.after.Nodup
  lN : u.needs.length ≤ 8
  lW : u.wants.length ≤ 8
  lB : u.bars.length ≤ 8
  lA : u.after.length ≤ 8
  op1 : u.kind = Str.ofString "door" → u.opens ≠ none
  op2 : u.kind ≠ Str.ofString "door" → u.opens = none
  five : ∀ f m t b s, u.five = some (f, m, t, b, s) → Five f m t b s
theorem row2 (a b : Str) : rowS [a, b] = a ++ spS ++ b := TL.join_eq _ _
theorem row3 (a b c : Str) : rowS [a, b, c] = a ++ spS ++ (b ++ spS ++ c) := TL.join_eq _ _
theorem row_cons (h : Str) {xs : List Str} (n : xs ≠ []) : rowS (h :: xs) = h ++ spS ++ rowS xs := by
  cases xs with
  | nil => exact absurd rfl n
  | cons x xs =>
    unfold rowS
    rw [TL.join_eq, TL.join_eq]
    rfl
theorem join_len (y : Str) : ∀ xs : List Str, (Str.join y xs).length ≤ (xs.map (·.length)).sum + xs.length * y.length
  | [] => by show 0 ≤ _; omega
  | [x] => by
    show x.length ≤ _
    simp
  | x :: z :: r => by
    have ih := join_len y (z :: r)
    show (x ++ y ++ Str.join y (z :: r)).length ≤ _
    rw [len_app, len_app]
    simp only [List.map_cons, List.sum_cons, List.length_cons] at ih ⊢
    have : (r.length + 1 + 1) * y.length = (r.length + 1) * y.length + y.length := Nat.succ_mul _ _
    omega
theorem sum_le (k : Nat) : ∀ xs : List Str, (∀ x ∈ xs, x.length ≤ k) → (xs.map (·.length)).sum ≤ xs.length * k
  | [], _ => by simp
  | x :: xs, h => by
    have h1 := h x (List.mem_cons_self ..)
    have h2 := sum_le k xs fun y hy => h y (List.mem_cons_of_mem _ hy)
    rw [List.map_cons, List.sum_cons, List.length_cons, Nat.succ_mul]
    omega
theorem row_len {xs : List Str} (k : Nat) (h : ∀ x ∈ xs, x.length ≤ k) : (rowS xs).length ≤ xs.length * k + xs.length := by
  unfold rowS
  rw [TL.join_eq]
  have h1 := join_len spS xs
  have h2 := sum_le k xs h
  have h3 : spS.length = 1 := lit_len1
  rw [h3] at h1
  omega
theorem unit_head (w k : Str) : Str.empty ++ Str.ofString "unit " ++ w ++ spS ++ k = rowS [Str.ofString "unit", w, k] := by
  rw [row3, show Str.ofString "unit " = Str.ofString "unit" ++ spS by decide +kernel]
  simp only [Str.empty_append, Str.append_assoc]
theorem opens_row (g : Str) : Str.empty ++ Str.ofString "opens " ++ g = rowS [Str.ofString "opens", g] := by
  rw [row2, show Str.ofString "opens " = Str.ofString "opens" ++ spS by decide +kernel]
  simp only [Str.empty_append, Str.append_assoc]
theorem rule_row (ws : List Str) (n : ws ≠ []) : Str.empty ++ Str.ofString "rule " ++ rowS ws = rowS (Str.ofString "rule" :: ws) := by
  rw [row_cons _ n, show Str.ofString "rule " = Str.ofString "rule" ++ spS by decide +kernel]
  simp only [Str.empty_append, Str.append_assoc]
/-- the four lists with their names -/
def four (u : UF) : List (Str × List Str) := [(Str.ofString "needs", u.needs), (Str.ofString "wants", u.wants), (Str.ofString "bars", u.bars), (Str.ofString "after", u.after)]
def fourRows (u : UF) (j : Nat) : List (List Str) := ((four u).take j).flatMap fun p => rowL p.1 p.2
theorem rowL_len (h : Str) (xs : List Str) : (rowL h xs).length ≤ 1 := by
  unfold rowL
  split
  · exact Nat.zero_le _
  · exact Nat.le_refl _
theorem flat_len : ∀ l : List (Str × List Str), (l.flatMap fun p => rowL p.1 p.2).length ≤ l.length
  | [] => Nat.le_refl _
  | p :: l => by
    have h1 := rowL_len p.1 p.2
    have h2 := flat_len l
    rw [List.flatMap_cons, List.length_append, List.length_cons]
    omega
theorem fourRows_len (u : UF) (j : Nat) : (fourRows u j).length ≤ 4 := Nat.le_trans (flat_len _) (List.length_take_le' ..)
theorem fourRows_succ {u : UF} {j : Nat} {p : Str × List Str} (h : (four u)[j]? = some p) : fourRows u (j + 1) = fourRows u j ++ rowL p.1 p.2 := by
  unfold fourRows
  rw [take_snoc h, List.flatMap_append]
  simp
/-- a pair of a name and a list of names stands at each -/
def FourP (K : PySem.W.Frag) (H : Hp) (u : UF) (xs : List V) : Prop := ∀ (j : Nat) v, xs[j]? = some v → ∃ (t a : Addr) (p : Str × List Str), v = .ref t ∧ (four u)[j]? = some p ∧ H t = some (.tup [.str p.1, .ref a]) ∧ SqT K H a (p.2.map V.str)
theorem Tx.fourth {w : Str} {u : UF} (h : Tx w u) {j : Nat} {p : Str × List Str} (e : (four u)[j]? = some p) : p.1.length ≤ 5 ∧ p.2.length ≤ 8 ∧ ∀ x ∈ p.2, x.length ≤ 8 := by
  have nm : ∀ x ∈ u.named, x.length ≤ 8 := fun x hx => (h.named x hx).1.2.2
  unfold UF.named at nm
  simp only [List.mem_append] at nm
  have l1 : (Str.ofString "needs").length = 5 := by decide +kernel
  have l2 : (Str.ofString "wants").length = 5 := by decide +kernel
  have l3 : (Str.ofString "bars").length = 4 := by decide +kernel
  have l4 : (Str.ofString "after").length = 5 := by decide +kernel
  have hm := List.mem_of_getElem? e
  unfold four at hm
  simp only [List.mem_cons, List.not_mem_nil, or_false] at hm
  rcases hm with rfl | rfl | rfl | rfl
  · exact ⟨by show (Str.ofString "needs").length ≤ 5; omega, h.lN, fun x hx => nm x (.inl (.inl (.inl (.inl hx))))⟩
  · exact ⟨by show (Str.ofString "wants").length ≤ 5; omega, h.lW, fun x hx => nm x (.inl (.inl (.inl (.inr hx))))⟩
  · exact ⟨by show (Str.ofString "bars").length ≤ 5; omega, h.lB, fun x hx => nm x (.inl (.inl (.inr hx)))⟩
  · exact ⟨by show (Str.ofString "after").length ≤ 5; omega, h.lA, fun x hx => nm x (.inl (.inr hx))⟩
/-- the rows behind the first: few, of few short words -/
theorem Tx.small {w : Str} {u : UF} (h : Tx w u) : (unitRows w u).length ≤ 7 ∧ ∀ ws ∈ unitRows w u, ws ≠ [] ∧ ws.length ≤ 9 ∧ ∀ x ∈ ws, x.length ≤ 8 := by
  have nm : ∀ x ∈ u.named, x.length ≤ 8 := fun x hx => (h.named x hx).1.2.2
  unfold UF.named at nm
  simp only [List.mem_append] at nm
  have lw := h.nm.2.2
  have lk : u.kind.length ≤ 4 := by
    rcases h.kd with e | e | e <;> rw [e] <;> decide +kernel
  have c1 : ∀ x ∈ ["unit", "needs", "wants", "bars", "after", "opens", "rule"], (Str.ofString x).length ≤ 5 := by decide +kernel
  have one : ∀ (hd : Str) (xs : List Str), (rowL hd xs).length ≤ 1 := fun hd xs => by
    unfold rowL
    split
    · exact Nat.zero_le _
    · exact Nat.le_refl _
  have lst : ∀ (hd : Str) (xs : List Str), hd.length ≤ 5 → xs.length ≤ 8 → (∀ x ∈ xs, x.length ≤ 8) → ∀ ws ∈ rowL hd xs, ws ≠ [] ∧ ws.length ≤ 9 ∧ ∀ x ∈ ws, x.length ≤ 8 := fun hd xs h1 h2 h3 ws hw => by
    unfold rowL at hw
    split at hw
    · cases hw
    · rw [List.mem_singleton.mp hw]
      refine ⟨List.cons_ne_nil _ _, by rw [List.length_cons]; omega, fun x hx => ?_⟩
      rcases List.mem_cons.mp hx with rfl | hx
      · omega
      · exact h3 x hx
  have o1 : (rowO u.opens).length ≤ 1 := by
    cases u.opens with
    | none => exact Nat.zero_le _
    | some g => exact Nat.le_refl _
  have f1 : (rowF u.five).length ≤ 1 := by
    rcases u.five with _ | ⟨f, m, t, b, s⟩
    · exact Nat.zero_le _
    · exact Nat.le_refl _
  refine ⟨?_, fun ws hw => ?_⟩
  · have := one (Str.ofString "needs") u.needs
    have := one (Str.ofString "wants") u.wants
    have := one (Str.ofString "bars") u.bars
    have := one (Str.ofString "after") u.after
    unfold unitRows behindRows
    simp only [List.length_cons, List.length_append]
    omega
  · unfold unitRows behindRows at hw
    simp only [List.mem_cons, List.mem_append] at hw
    rcases hw with rfl | ((((hw | hw) | hw) | hw) | hw) | hw
    · refine ⟨List.cons_ne_nil _ _, by show 3 ≤ 9; decide, fun x hx => ?_⟩
      simp only [List.mem_cons, List.not_mem_nil, or_false] at hx
      rcases hx with rfl | rfl | rfl
      · exact Nat.le_trans (c1 "unit" (by decide)) (by decide)
      · exact lw
      · omega
    · exact lst _ _ (c1 "needs" (by decide)) h.lN (fun x hx => nm x (.inl (.inl (.inl (.inl hx))))) ws hw
    · exact lst _ _ (c1 "wants" (by decide)) h.lW (fun x hx => nm x (.inl (.inl (.inl (.inr hx))))) ws hw
    · exact lst _ _ (c1 "bars" (by decide)) h.lB (fun x hx => nm x (.inl (.inl (.inr hx)))) ws hw
    · exact lst _ _ (c1 "after" (by decide)) h.lA (fun x hx => nm x (.inl (.inr hx))) ws hw
    · cases ho : u.opens with
      | none =>
        rw [ho] at hw
        cases hw
      | some g =>
        rw [ho] at hw nm
        rw [List.mem_singleton.mp hw]
        refine ⟨List.cons_ne_nil _ _, by show 2 ≤ 9; decide, fun x hx => ?_⟩
        simp only [List.mem_cons, List.not_mem_nil, or_false] at hx
        rcases hx with rfl | rfl
        · exact Nat.le_trans (c1 "opens" (by decide)) (by decide)
        · exact nm x (.inr (List.mem_singleton.mpr rfl))
    · cases ho : u.five with
      | none =>
        rw [ho] at hw
        cases hw
      | some v =>
        obtain ⟨f, m, t, b, s⟩ := v
        rw [ho] at hw
        have W := Five.wr (h.five f m t b s ho)
        rw [List.mem_singleton.mp hw]
        refine ⟨List.cons_ne_nil _ _, by show 6 ≤ 9; decide, fun x hx => ?_⟩
        simp only [List.mem_cons, List.not_mem_nil, or_false] at hx
        rcases hx with rfl | rfl | rfl | rfl | rfl | rfl
        · exact Nat.le_trans (c1 "rule" (by decide)) (by decide)
        · exact Nat.le_trans (nT_len W.f0 W.f1) (by decide)
        · exact Nat.le_trans (nT_len W.m0 W.m1) (by decide)
        · exact Nat.le_trans (nT_len W.t0 W.t1) (by decide)
        · exact Nat.le_trans (nT_len W.b0 W.b1) (by decide)
        · exact Nat.le_trans (nT_len W.s0 W.s1) (by decide)
theorem Tx.rows {w : Str} {u : UF} (h : Tx w u) : ((unitRows w u).map rowS).length ≤ 7 ∧ ∀ x ∈ (unitRows w u).map rowS, x.length ≤ 100 := by
  refine ⟨by rw [List.length_map]; exact h.small.1, fun x hx => ?_⟩
  obtain ⟨ws, hw, rfl⟩ := List.mem_map.mp hx
  obtain ⟨_, l9, l8⟩ := h.small.2 ws hw
  have := row_len 8 l8
  omega
theorem line16 {n : Nat} (h : n ≤ 1000) : n ≤ 16777216 := by omega
def sp_show_unit (K : PySem.W.Frag) : Sp := fun vs H Q _ => ∃ (p : Addr) (w : Str) (u : UF), vs = [.ref p] ∧ UnitAt K H p w u ∧ Tx w u ∧ ∀ H', Same H H' → Q (.str (unitText w u)) H'
theorem ok_show_unit (T : Txt K mg) : FnOk P w K mg base CX0 5 (He.fAd K ("show_unit", none)) T.d_show_unit ["unit"] (sp_show_unit K) := by
  refine T.F_show_unit.ok sc_show_unit (fun vs H Q E h => ?_) (fun cdv A outer s H vs Q E hr h => ?_)
  · obtain ⟨p, w, u, rfl, _⟩ := h
    rfl
  · obtain ⟨p, w, u, rfl, hU, hT, q⟩ := h
    refine ⟨_, PSs.nox (pss_cons (ps_set (i := 1) sc_show_unit.nd rfl (Or.inl rfl) (pe_lst (pa_cons (pe_joined (PJ.cons pe_str (PJ.cons (pe_fmt (pe_fld (pv 0) rfl)) (PJ.cons pe_str (PJ.cons (pe_fmt (pe_fld (pv 0) rfl)) PJ.nil))))) pa_nil)))
      (pss_cons (ps_set (i := 2) sc_show_unit.nd rfl (Or.inl rfl) (pe_tup (pa_cons (pe_tup (pa_cons pe_str (pa_cons (pe_fld (pv 0) rfl) pa_nil))) (pa_cons (pe_tup (pa_cons pe_str (pa_cons (pe_fld (pv 0) rfl) pa_nil))) (pa_cons (pe_tup (pa_cons pe_str (pa_cons (pe_fld (pv 0) rfl) pa_nil))) (pa_cons (pe_tup (pa_cons pe_str (pa_cons (pe_fld (pv 0) rfl) pa_nil))) pa_nil))))))
      (pss_cons (ps_for PassesOwn.never rfl (pi_tup (pv 2)) (pg_tup rfl (pgs_cons (pg_name (i := 3) sc_show_unit.nd rfl (Or.inl rfl)) (pgs_cons (pg_name (i := 4) sc_show_unit.nd rfl (Or.inl rfl)) pgs_nil)))
      (pss_one (ps_if (pt_cmpR op_gt (pe_callB (id := "len")  call_len_seq (by rfl) T.n_len (by decide +kernel) (pa_cons (pv 4) pa_nil)) pe_int (nomark _))
      (pss_one (ps_expr (pe_bm PySem.F.plainAttrs_list PySem.F.slot_list_append PySem.F.type_list_append mt_append (pv 1) (pa_cons (pe_join pe_str (pe_lst (pa_cons (pv 3) (StX.pa_star (pv 4) pa_nil)))) pa_nil))))
      pss_nil)))
      (pss_mid (ps_if (pt_cmpR op_notN (pe_fld (pv 0) rfl) pe_non (nomark _))
      (pss_one (ps_expr (pe_bm PySem.F.plainAttrs_list PySem.F.slot_list_append PySem.F.type_list_append mt_append (pv 1) (pa_cons (pe_joined (PJ.cons pe_str (PJ.cons (pe_fmt (pe_fld (pv 0) rfl)) PJ.nil))) pa_nil))))
      pss_nil)
      (pss_mid (ps_if (pt_cmpR op_notN (pe_fld (pv 0) rfl) pe_non (nomark _))
      (pss_one (ps_expr (pe_bm PySem.F.plainAttrs_list PySem.F.slot_list_append PySem.F.type_list_append mt_append (pv 1) (pa_cons (pe_joined (PJ.cons pe_str (PJ.cons (UO.pe_fmtO (ok_Rule_str T) T.me_Rule_str.at_ T.me_Rule_str.fn T.b_Rule_str pass0 T.ix_Rule.fmt T.ix_Rule.mro (hr.mono (by decide)) (pe_fld (pv 0) rfl)) PJ.nil))) pa_nil))))
      pss_nil)
      (pss_one (ps_ret (pe_join pe_str (pv 1))))))))), ?_⟩
    obtain ⟨dx, n, x, b, a, r, hp, hn, hx, hb, ha, hr5⟩ := id hU
    have ln := hT.nm.2.2
    have lk : u.kind.length ≤ 4 := by
      rcases hT.kd with e | e | e <;> rw [e] <;> decide +kernel
    have l5 : (Str.ofString "unit ").length = 5 := by decide +kernel
    have hT' := hT
    refine ⟨_, rfl, line_ok (by simp only [len_app, emp_len]; omega), _, rfl, p, _, dx, _, _, rfl, hp, T.cl_Unit, T.na_Unit_name, rfl, .inl ⟨w, rfl, line_ok (by omega), w, rfl, line_ok (by simp only [len_app, emp_len]; omega), ?_⟩⟩
    refine ⟨_, rfl, line_ok (by simp only [len_app, emp_len, lit_len1]; omega), _, rfl, p, _, dx, _, _, rfl, hp, T.cl_Unit, T.na_Unit_kind, rfl, .inl ⟨u.kind, rfl, line_ok (by omega), u.kind, rfl, line_ok (by simp only [len_app, emp_len, lit_len1]; omega), ?_⟩⟩
    refine ⟨by show 1 ≤ sizeLine; decide, fun L nL => ?_⟩
    rw [unit_head]
    generalize hE1 : upd H L _ = H1
    have w1 := new_at hE1
    have s1 := new_same hE1 nL
    have fld : ∀ {H' : Hp}, Same H H' → H' p = _ := fun s => s _ _ hp
    -- lists
    refine ⟨_, rfl, p, _, dx, _, _, rfl, fld s1, T.cl_Unit, T.na_Unit_needs, rfl, by show 2 ≤ sizeLine; decide, fun t1 nt1 => ?_⟩
    generalize hE2 : upd H1 t1 _ = H2
    have wt1 := new_at hE2
    have n2 := new_same hE2 nt1
    have s2 := s1.trans n2
    refine ⟨_, rfl, p, _, dx, _, _, rfl, fld s2, T.cl_Unit, T.na_Unit_wants, rfl, by show 2 ≤ sizeLine; decide, fun t2 nt2 => ?_⟩
    generalize hE3 : upd H2 t2 _ = H3
    have wt2 := new_at hE3
    have n3 := new_same hE3 nt2
    have s3 := s2.trans n3
    refine ⟨_, rfl, p, _, dx, _, _, rfl, fld s3, T.cl_Unit, T.na_Unit_bars, rfl, by show 2 ≤ sizeLine; decide, fun t3 nt3 => ?_⟩
    generalize hE4 : upd H3 t3 _ = H4
    have wt3 := new_at hE4
    have n4 := new_same hE4 nt3
    have s4 := s3.trans n4
    refine ⟨_, rfl, p, _, dx, _, _, rfl, fld s4, T.cl_Unit, T.na_Unit_after, rfl, by show 2 ≤ sizeLine; decide, fun t4 nt4 => ?_⟩
    generalize hE5 : upd H4 t4 _ = H5
    have wt4 := new_at hE5
    have n5 := new_same hE5 nt4
    refine ⟨by show 4 ≤ sizeLine; decide, fun tt ntt => ?_⟩
    generalize hE6 : upd H5 tt _ = H6
    have wtt := new_at hE6
    have n6 := new_same hE6 ntt
    have s6 := (s4.trans n5).trans n6
    have wL6 := ((((n2.trans n3).trans n4).trans n5).trans n6) _ _ w1
    have quad : FourP K H6 u [.ref t1, .ref t2, .ref t3, .ref t4] := fun j v hv => by
      have j4 : j < 4 := (List.getElem?_eq_some_iff.mp hv).1
      match j, j4, hv with
      | 0, _, hv => cases hv; exact ⟨t1, n, _, rfl, rfl, (((n3.trans n4).trans n5).trans n6) _ _ wt1, tup_same s6 hn⟩
      | 1, _, hv => cases hv; exact ⟨t2, x, _, rfl, rfl, ((n4.trans n5).trans n6) _ _ wt2, tup_same s6 hx⟩
      | 2, _, hv => cases hv; exact ⟨t3, b, _, rfl, rfl, (n5.trans n6) _ _ wt3, tup_same s6 hb⟩
      | 3, _, hv => cases hv; exact ⟨t4, a, _, rfl, rfl, n6 _ _ wt4, tup_same s6 ha⟩
    have ntL : tt ≠ L := fun e => by
      rw [e, wL6] at wtt
      cases wtt
    -- for word, names in lists
    refine ⟨_, rfl, tt, rfl, ⟨_, SqT.of wtt⟩, for_tup (xs := [.ref t1, .ref t2, .ref t3, .ref t4]) (fun j σ H' => Kp L H6 H' ∧ H' L = some (.lst ((([Str.ofString "unit", w, u.kind] :: fourRows u j).map rowS).map V.str)) ∧ ∃ y3 y4 : Option V, σ = [some (.ref p), some (.ref L), some (.ref tt), y3, y4])
      ⟨.refl _ _, wL6, _, _, rfl⟩ (fun j σ H' _ h => SqT.of (h.1 _ _ wtt ntL)) ?_ ?_⟩
    · rintro j v σ H7 hj ⟨k7, w7, y3, y4, rfl⟩
      obtain ⟨t, na, pr, rfl, hpr, htt, hna⟩ := quad j v hj
      obtain ⟨l5', l8, l8'⟩ := hT.fourth hpr
      have nt7 : NotTp H6 L := .lst wL6
      have ht7 := k7.tup (K := K) nt7 (SqT.of htt)
      have hna7 := k7.tup (K := K) nt7 hna
      refine ⟨t, _, rfl, ht7, rfl, _, _, rfl, _, _, rfl, rfl, ?_⟩
      refine ⟨_, rfl, na, _, rfl, .inr hna7, _, _, rfl, rfl, _, rfl, ?_⟩
      rw [List.length_map]
      by_cases c : pr.2 = []
      · refine iteNd (by rw [c]; decide) ⟨k7, ?_, _, _, rfl⟩
        rw [fourRows_succ hpr]
        unfold rowL
        rw [if_pos c, List.append_nil]
        exact w7
      have c0 : 0 < pr.2.length := List.length_pos_iff.mpr c
      refine iteYd (by omega) ?_
      refine ⟨_, rfl, .inl ⟨rfl, _, SqL.of w7⟩, ⟨_, rfl⟩, _, rfl, _, rfl, na, _, rfl, .inl hna7, ?_⟩
      refine ⟨by rw [List.append_nil, List.length_cons, List.length_map]; exact line_ok (by omega), fun R nR => ?_⟩
      generalize hE8 : upd H7 R _ = H8
      have wR : H8 R = some (.lst ((pr.1 :: pr.2).map V.str)) := by
        rw [new_at hE8, List.append_nil]
        rfl
      have n8 := new_same hE8 nR
      have wL8 := n8 _ _ w7
      have sm := sum_le 8 (pr.1 :: pr.2) fun x hx => by
        rcases List.mem_cons.mp hx with rfl | hx
        · omega
        · exact l8' x hx
      rw [List.length_cons] at sm
      refine ⟨spS, R, pr.1 :: pr.2, rfl, rfl, .inl (SqL.of wR), by rw [lit_len1, List.length_cons]; omega, L, _, _, rfl, rfl, wL8, by rw [List.length_map, List.length_map, List.length_cons]; exact small1000 (by have := fourRows_len u j; omega), ?_⟩
      refine ⟨(k7.same n8).trans (mut_keep rfl), ?_, _, _, rfl⟩
      rw [upd_same, fourRows_succ hpr]
      unfold rowL
      rw [if_neg c, ← List.cons_append, List.map_append, List.map_append]
      rfl
    · rintro σ H7 ⟨k7, w7, y3, y4, rfl⟩
      have npL : p ≠ L := ne_some hp nL
      have e4 : fourRows u 4 = rowL (Str.ofString "needs") u.needs ++ rowL (Str.ofString "wants") u.wants ++ rowL (Str.ofString "bars") u.bars ++ rowL (Str.ofString "after") u.after := by
        show [_, _, _, _].flatMap _ = _
        simp only [List.flatMap_cons, List.flatMap_nil, List.append_nil, List.append_assoc]
      have hp7 := k7 _ _ (s6 _ _ hp) npL
      refine ⟨fun σ' H' => Kp L H6 H' ∧ H' L = some (.lst ((([Str.ofString "unit", w, u.kind] :: (fourRows u 4 ++ rowO u.opens)).map rowS).map V.str)) ∧ σ' = [some (.ref p), some (.ref L), some (.ref tt), y3, y4], ?_, ?_⟩
      · refine ⟨_, rfl, p, _, dx, _, _, rfl, hp7, T.cl_Unit, T.na_Unit_opens, rfl, rfl, _, rfl, ?_⟩
        cases ho : u.opens with
        | none =>
          refine neF ⟨k7, ?_, rfl⟩
          rw [show rowO none = [] from rfl, List.append_nil]
          exact w7
        | some g =>
          rw [decide_eq_false (show ¬ optV (some g) = V.non from fun z => nomatch z)]
          have lg : g.length ≤ 8 := (hT.named g (by unfold UF.named; rw [ho]; exact List.mem_append_right _ (List.mem_singleton.mpr rfl))).1.2.2
          rw [ho] at hp7
          have l6 : (Str.ofString "opens ").length = 6 := by decide +kernel
          refine iteT ⟨_, rfl, .inl ⟨rfl, _, SqL.of w7⟩, _, rfl, line_ok (by simp only [len_app, emp_len]; omega), _, rfl, p, _, dx, _, _, rfl, hp7, T.cl_Unit, T.na_Unit_opens, rfl, .inl ⟨g, rfl, line_ok (by omega), g, rfl, line_ok (by simp only [len_app, emp_len]; omega), ?_⟩⟩
          refine ⟨L, _, _, rfl, rfl, w7, by rw [List.length_map, List.length_map, List.length_cons]; exact small1000 (by have := fourRows_len u [V.ref t1, V.ref t2, V.ref t3, V.ref t4].length; omega), ?_⟩
          refine ⟨k7.trans (mut_keep rfl), ?_, rfl⟩
          rw [upd_same, opens_row, ← List.cons_append, List.map_append, List.map_append]
          rfl
      · rintro σ' H8 ⟨k8, w8, rfl⟩
        have hp8 := k8 _ _ (s6 _ _ hp) npL
        have hr8 : RuleOpt K H8 r u.five := by
          cases hv : u.five with
          | none =>
            rw [hv] at hr5
            exact hr5
          | some v5 =>
            obtain ⟨f, m, t, bu, sp⟩ := v5
            rw [hv] at hr5
            obtain ⟨ra, e, hra⟩ := hr5
            obtain ⟨dr, hdr⟩ := id hra
            exact ⟨ra, e, (hra.same s6).keep k8 (ne_some hdr nL)⟩
        refine ⟨fun σ' H' => Kp L H6 H' ∧ H' L = some (.lst (((unitRows w u).map rowS).map V.str)) ∧ σ' = [some (.ref p), some (.ref L), some (.ref tt), y3, y4], ?_, ?_⟩
        · refine ⟨_, rfl, p, _, dx, _, _, rfl, hp8, T.cl_Unit, T.na_Unit_rule, rfl, rfl, _, rfl, ?_⟩
          cases hv : u.five with
          | none =>
            rw [hv] at hr8
            rw [show r = .non from hr8]
            refine neF ⟨k8, ?_, rfl⟩
            rw [w8]
            unfold unitRows behindRows
            rw [hv, ← e4, show rowF none = [] from rfl, List.append_nil]
          | some v5 =>
            obtain ⟨f, m, t, bu, sp⟩ := v5
            rw [hv] at hr8
            obtain ⟨ra, rfl, hra⟩ := hr8
            have W := Five.wr (hT.five f m t bu sp hv)
            rw [decide_eq_false (show ¬ V.ref ra = V.non from fun z => nomatch z)]
            have l5 : (Str.ofString "rule ").length = 5 := by decide +kernel
            have lw5 := row_len (xs := words f m t bu sp) 8 fun x hx => by
              simp only [List.mem_cons, List.not_mem_nil, or_false] at hx
              rcases hx with rfl | rfl | rfl | rfl | rfl
              · exact Nat.le_trans (nT_len W.f0 W.f1) (by decide)
              · exact Nat.le_trans (nT_len W.m0 W.m1) (by decide)
              · exact Nat.le_trans (nT_len W.t0 W.t1) (by decide)
              · exact Nat.le_trans (nT_len W.b0 W.b1) (by decide)
              · exact Nat.le_trans (nT_len W.s0 W.s1) (by decide)
            refine iteT ⟨_, rfl, .inl ⟨rfl, _, SqL.of w8⟩, _, rfl, line_ok (by simp only [len_app, emp_len]; omega), _, rfl, p, _, dx, _, _, rfl, hp8, T.cl_Unit, T.na_Unit_rule, rfl, ?_⟩
            obtain ⟨dr, hdr⟩ := id hra
            refine ⟨ra, dr, _, rfl, hdr, ra, f, m, t, bu, sp, rfl, hra, W, _, rfl, _, rfl, ?_, ?_⟩
            · rw [len_app, len_app, emp_len, l5]
              exact line_ok (by show 0 + 5 + (rowS (words f m t bu sp)).length ≤ 1000; simp only [List.length_cons, List.length_nil] at lw5; omega)
            refine ⟨L, _, _, rfl, rfl, w8, by rw [List.length_map, List.length_map, List.length_cons, List.length_append]; exact small1000 (by have := fourRows_len u 4; have : (rowO u.opens).length ≤ 1 := (by cases u.opens with | none => exact Nat.zero_le _ | some g => exact Nat.le_refl _); omega), ?_⟩
            refine ⟨k8.trans (mut_keep rfl), ?_, rfl⟩
            rw [upd_same]
            unfold unitRows behindRows
            show some (HO.lst (_ ++ [V.str (Str.empty ++ Str.ofString "rule " ++ rowS (words f m t bu sp))])) = _
            rw [hv, ← e4, show rowF (some (f, m, t, bu, sp)) = [Str.ofString "rule" :: words f m t bu sp] from rfl, rule_row _ (List.cons_ne_nil _ _)]
            simp only [List.map_append, List.map_cons, List.map_nil, List.cons_append, List.append_assoc]
        · rintro σ' H9 ⟨k9, w9, rfl⟩
          obtain ⟨r7, r100⟩ := hT.rows
          have sm := sum_le 100 _ r100
          have ln : nlS.length = 1 := by decide +kernel
          exact ⟨⟨_, rfl⟩, _, rfl, nlS, L, _, rfl, rfl, .inl (SqL.of w9), by rw [ln]; exact line16 (by omega), q H9 (Same.own s6 k9 nL)⟩

-- SPLIT
/-! ### read back -/
theorem sp_cut {ws : List Str} (n : ws ≠ []) (h : ∀ x ∈ ws, 32 ∉ TL.tl x) : Txt.split (rowS ws) spS = ws := TL.split_join (y := spS) (s := 32) (S := []) (by decide +kernel) (by decide +kernel) n h
theorem nl_cut {ws : List Str} (n : ws ≠ []) (h : ∀ x ∈ ws, 10 ∉ TL.tl x) : Txt.split (Txt.join nlS ws) nlS = ws := TL.split_join (y := nlS) (s := 10) (S := []) (by decide +kernel) (by decide +kernel) n h
theorem nm_free {x : Str} (h : Nm x) {c : Nat} (hc : c < 97) : c ∉ TL.tl x := fun hm => by
  have := (h.1 c hm).1
  omega
/-- the refusal of a text -/
abbrev NoT (K : PySem.W.Frag) (H : Hp) (E : XK) : Prop := ∀ H', Same H H' → E (.ref (He.ga K "NoText")) none H'
theorem lo16 {n : Nat} (h : n ≤ 20000) : n ≤ sizeLine := by
  rw [sizeLine_eq]
  omega
def sp_read_head (K : PySem.W.Frag) : Sp := fun vs H Q E => (∃ (w k : Str), vs = [.str (rowS [Str.ofString "unit", w, k])] ∧ Nm w ∧ (k = Str.ofString "work" ∨ k = Str.ofString "goal" ∨ k = Str.ofString "door") ∧
  ∀ t H', H t = none → Same H H' → H' t = some (.tup [.str w, .str k]) → Q (.ref t) H') ∨ ∃ x : Str, vs = [.str x] ∧ x.length ≤ 900 ∧ (Txt.split x spS).length ≠ 3 ∧ NoT K H E
theorem ok_read_head (T : Txt K mg) : FnOk P w K mg base (L2N.CX P w) 2 (He.fAd K ("read_head", none)) T.d_read_head ["line"] (sp_read_head K) := by
  refine T.F_read_head.ok sc_read_head (fun vs H Q E h => ?_) (fun cdv A outer s H vs Q E hr h => ?_)
  · rcases h with ⟨w, k, rfl, _⟩ | ⟨x, rfl, _⟩
    · rfl
    · rfl
  · rcases h with ⟨w, k, rfl, hw, hk, q⟩ | ⟨x, rfl, lx, n3, qE⟩
    rotate_left
    · refine ⟨_, (pss_cons (ps_set (i := 1) sc_read_head.nd rfl (Or.inl rfl) (pe_split (pv 0) pe_str))
      (pss_cons (ps_if (PW.pt (pw_or (pt_cmpR op_ne (pe_callB (id := "len")  call_len_seq (by rfl) T.n_len (by decide +kernel) (pa_cons (pv 1) pa_nil)) pe_int (nomark _)) (pw_or (pt_cmpR op_ne (pe_ix ix_list (pv 1) pe_int (fun _ _ => rfl)) pe_str (nomark _)) (pw_or (pt_not (pt_val (pe_call (ok_is_name T) (hr.mono (by decide)) (by rfl) T.m_is_name T.F_is_name.kp T.b_is_name .nil pass0 (pa_cons (pe_ix ix_list (pv 1) pe_int (fun _ _ => rfl)) pa_nil)))) (pw_or1 (pt_cmpR op_notIn_seq (pe_ix ix_list (pv 1) pe_int (fun _ _ => rfl)) (pe_glob (v := .ref (He.ga K "KINDS")) (by rfl) T.m_KINDS rfl) (by rfl)))))))
      (pss_one (L2N.ps_raise (by rfl) (L2N.takes_of rfl rfl rfl rfl) (UF.pm_bare T.bx_NoText (by rfl) T.m_NoText (pa_cons pe_str pa_nil))))
      pss_nil)
      (pss_one (ps_ret (pe_tup (pa_cons (pe_ix ix_list (pv 1) pe_int (fun _ _ => rfl)) (pa_cons (pe_ix ix_list (pv 1) pe_int (fun _ _ => rfl)) pa_nil))))))), ?_⟩
      refine ⟨_, rfl, ⟨_, rfl⟩, _, _, rfl, rfl, by decide +kernel, line_ok (by omega), fun D nD => ?_⟩
      generalize hE1 : upd H D _ = H1
      have w1 := new_at hE1
      have s1 := new_same hE1 nD
      refine ⟨_, rfl, D, _, rfl, .inl (SqL.of w1), rfl, _, rfl, ?_⟩
      rw [List.length_map, decide_eq_false (show ¬ V.int ((Txt.split x spS).length : Int) = V.int 3 from fun z => n3 (by injection z with z; omega))]
      exact iteT (iteT ⟨by show 1 ≤ 1000; decide, qE _ s1⟩)
    refine ⟨_, (pss_cons (ps_set (i := 1) sc_read_head.nd rfl (Or.inl rfl) (pe_split (pv 0) pe_str))
      (pss_cons (ps_if (PW.pt (pw_or (pt_cmpR op_ne (pe_callB (id := "len")  call_len_seq (by rfl) T.n_len (by decide +kernel) (pa_cons (pv 1) pa_nil)) pe_int (nomark _)) (pw_or (pt_cmpR op_ne (pe_ix ix_list (pv 1) pe_int (fun _ _ => rfl)) pe_str (nomark _)) (pw_or (pt_not (pt_val (pe_call (ok_is_name T) (hr.mono (by decide)) (by rfl) T.m_is_name T.F_is_name.kp T.b_is_name .nil pass0 (pa_cons (pe_ix ix_list (pv 1) pe_int (fun _ _ => rfl)) pa_nil)))) (pw_or1 (pt_cmpR op_notIn_seq (pe_ix ix_list (pv 1) pe_int (fun _ _ => rfl)) (pe_glob (v := .ref (He.ga K "KINDS")) (by rfl) T.m_KINDS rfl) (by rfl)))))))
      (pss_one (L2N.ps_raise (by rfl) (L2N.takes_of rfl rfl rfl rfl) (UF.pm_bare T.bx_NoText (by rfl) T.m_NoText (pa_cons pe_str pa_nil))))
      pss_nil)
      (pss_one (ps_ret (pe_tup (pa_cons (pe_ix ix_list (pv 1) pe_int (fun _ _ => rfl)) (pa_cons (pe_ix ix_list (pv 1) pe_int (fun _ _ => rfl)) pa_nil))))))), ?_⟩
    have lk : k.length ≤ 4 := by
      rcases hk with e | e | e <;> rw [e] <;> decide +kernel
    have c1 : (Str.ofString "unit").length = 4 := by decide +kernel
    have lr : (rowS [Str.ofString "unit", w, k]).length ≤ 30 := by
      have := row_len (xs := [Str.ofString "unit", w, k]) 8 fun x hx => by
        simp only [List.mem_cons, List.not_mem_nil, or_false] at hx
        rcases hx with rfl | rfl | rfl
        · omega
        · exact hw.2.2
        · omega
      simp only [List.length_cons, List.length_nil] at this
      omega
    have cut : Txt.split (rowS [Str.ofString "unit", w, k]) spS = [Str.ofString "unit", w, k] := sp_cut (List.cons_ne_nil _ _) fun x hx => by
      simp only [List.mem_cons, List.not_mem_nil, or_false] at hx
      rcases hx with rfl | rfl | rfl
      · decide +kernel
      · exact nm_free hw (by decide)
      · rcases hk with e | e | e <;> rw [e] <;> decide +kernel
    refine ⟨_, rfl, ⟨_, rfl⟩, _, _, rfl, rfl, by decide +kernel, line_ok (by omega), fun D nD => ?_⟩
    rw [cut]
    generalize hE1 : upd H D _ = H1
    have w1 : H1 D = some (.lst [.str (Str.ofString "unit"), .str w, .str k]) := new_at hE1
    have s1 := new_same hE1 nD
    refine ⟨_, rfl, D, _, rfl, .inl (SqL.of w1), rfl, _, rfl, neF ?_⟩
    refine ⟨_, rfl, D, _, _, _, rfl, rfl, SqL.of w1, at0, rfl, _, rfl, neF ?_⟩
    refine ⟨_, rfl, D, _, _, _, rfl, rfl, SqL.of w1, at1, w, rfl, hw, fun H2 s2 => ⟨_, rfl, iteF ?_⟩⟩
    have w2 := s2 _ _ w1
    refine ⟨_, rfl, D, _, _, _, rfl, rfl, SqL.of w2, at2, _, _, rfl, .inr (UB.GtAt.strs (xs := [Str.ofString "work", Str.ofString "goal", Str.ofString "door"]) T.gt_KINDS H2), rfl, strs_flat _, _, rfl, ?_⟩
    rw [inV_str, decide_eq_true (show k ∈ [Str.ofString "work", Str.ofString "goal", Str.ofString "door"] by simpa using hk)]
    refine iteF ?_
    refine ⟨_, rfl, D, _, _, _, rfl, rfl, SqL.of w2, at1, _, rfl, D, _, _, _, rfl, rfl, SqL.of w2, at2, by show 2 ≤ sizeLine; decide, fun t nt => ?_⟩
    exact q t _ ((s1.trans s2).free nt) ((s1.trans s2).trans (same_upd nt)) upd_same
theorem nodup_take_not {xs : List Str} {i : Nat} {x : Str} (nd : xs.Nodup) (h : xs[i]? = some x) : x ∉ xs.take i := fun hm => by
  have e : xs = xs.take i ++ xs.drop i := (List.take_append_drop i xs).symm
  have hd : x ∈ xs.drop i := by
    have : (xs.drop i)[0]? = some x := by rw [List.getElem?_drop]; exact h
    exact List.mem_of_getElem? this
  rw [e] at nd
  exact (List.nodup_append.mp nd).2.2 x hm x hd rfl
def sp_read_names (K : PySem.W.Frag) : Sp := fun vs H Q _ => ∃ (l : Addr) (xs : List Str) (own : Str), vs = [.ref l, .str own] ∧ SqL K H l (xs.map V.str) ∧ xs.length ≤ 8 ∧ xs.Nodup ∧ (∀ x ∈ xs, Nm x ∧ x ≠ own) ∧
  ∀ t H', H t = none → Same H H' → H' t = some (.tup (xs.map V.str)) → Q (.ref t) H'
theorem ok_read_names (T : Txt K mg) : FnOk P w K mg base CX0 2 (He.fAd K ("read_names", none)) T.d_read_names ["words", "own"] (sp_read_names K) := by
  refine T.F_read_names.ok sc_read_names (fun vs H Q E h => ?_) (fun cdv A outer s H vs Q E hr h => ?_)
  · obtain ⟨l, xs, own, rfl, _⟩ := h
    rfl
  · obtain ⟨l, xs, own, rfl, hl, l8, nd, hx, q⟩ := h
    refine ⟨_, PSs.nox (pss_cons (ps_if (pt_cmpR op_gt (pe_callB (id := "len")  call_len_seq (by rfl) T.n_len (by decide +kernel) (pa_cons (pv 0) pa_nil)) (pe_glob (v := .int 8) (by rfl) T.c_MOST_NAMES.choose_spec ⟨_, rfl⟩) (nomark _))
      (pss_one ps_never)
      pss_nil)
      (pss_cons (ps_for PassesOwn.never rfl (pi_enum (by rfl) T.n_enumerate (pa_cons (pv 0) pa_nil)) (pg_tup rfl (pgs_cons (pg_name (i := 2) sc_read_names.nd rfl (Or.inl rfl)) (pgs_cons (pg_name (i := 3) sc_read_names.nd rfl (Or.inl rfl)) pgs_nil)))
      (pss_one (ps_if (PW.pt (pw_or (pt_not (pt_val (pe_call (ok_is_name T) (hr.mono (by decide)) (by rfl) T.m_is_name T.F_is_name.kp T.b_is_name .nil pass0 (pa_cons (pv 3) pa_nil)))) (pw_or (pt_cmpR op_eq (pv 3) (pv 1) (nomark _)) (pw_or1 (pt_cmpR op_in_seq (pv 3) (pe_slice sl_list (pv 0) po_none (po_some (pv 2))) (by rfl))))))
      (pss_one ps_never)
      pss_nil)))
      (pss_one (ps_ret (pe_callTy (T := "tuple")  call_tuple_of (by rfl) T.n_tuple (by decide +kernel) (pa_cons (pv 0) pa_nil)))))), ?_⟩
    refine ⟨_, rfl, l, _, rfl, .inl hl, _, _, rfl, rfl, _, rfl, ?_⟩
    rw [List.length_map]
    refine iteNd (by omega) ?_
    refine ⟨_, rfl, l, _, rfl, hl, for_enum2 (xs := xs.map V.str) (fun i σ H' => Same H H' ∧ ∃ y2 y3 : Option V, σ = [some (.ref l), some (.str own), y2, y3]) ⟨Same.refl _, _, _, rfl⟩ (fun i σ H' _ h => SqL.ext hl h.1) ?_ ?_⟩
    · rintro i x σ H1 H2 hi ⟨s1, y2, y3, rfl⟩ s2
      have s2' := s1.trans s2
      obtain ⟨wd, hwd, rfl⟩ : ∃ wd, xs[i]? = some wd ∧ x = .str wd := by
        rw [List.getElem?_map] at hi
        obtain ⟨wd, h1, h2⟩ := Option.map_eq_some_iff.mp hi
        exact ⟨wd, h1, h2.symm⟩
      have hm := List.mem_of_getElem? hwd
      refine ⟨_, rfl, wd, rfl, (hx wd hm).1, fun H3 s3 => ?_⟩
      refine ⟨_, rfl, iteF ?_⟩
      refine ⟨_, rfl, _, rfl, rfl, _, rfl, ?_⟩
      rw [decide_eq_false (show ¬ V.str wd = V.str own from fun z => (hx wd hm).2 (V.str.inj z))]
      refine iteF ?_
      have hl3 := SqL.ext (SqL.ext hl s2') s3
      refine ⟨_, rfl, _, rfl, ?_⟩
      unfold tNoPart
      refine ⟨_, rfl, _, rfl, l, _, rfl, hl3, fun A nA => ?_⟩
      rw [cutV_strs]
      generalize hE4 : upd H3 A _ = H4
      have wA := new_at hE4
      have s4 := new_same hE4 nA
      refine ⟨A, _, rfl, .inl (SqL.of wA), rfl, strs_flat _, _, rfl, ?_⟩
      rw [inV_str, decide_eq_false (nodup_take_not nd hwd)]
      refine iteF ⟨((s2'.trans s3).trans s4), _, _, rfl⟩
    · rintro σ H1 ⟨s1, y2, y3, rfl⟩
      refine ⟨_, rfl, l, _, rfl, .inl ⟨SqL.ext hl s1, fun t nt => ?_⟩⟩
      exact q t _ (s1.free nt) (s1.trans (same_upd nt)) upd_same

theorem eqS_self (w : Str) : eqV (.str w) (.str w) = true := by
  show (w == w) = true
  exact beq_self_eq_true w
theorem eqS_ne {a b : Str} (h : a ≠ b) : eqV (.str a) (.str b) = false := by
  show (a == b) = false
  exact beq_eq_false_iff_ne.mpr h
theorem index_of {ws : List Str} (nd : ws.Nodup) {w : Str} (h : w ∈ ws) : ∃ j, ws[j]? = some w ∧ ∀ (m : Nat) (z : V), m < j → (ws.map V.str)[m]? = some z → eqV z (.str w) = false := by
  obtain ⟨j, hj, e⟩ := List.getElem_of_mem h
  refine ⟨j, by rw [List.getElem?_eq_getElem hj, e], fun m z hm hz => ?_⟩
  obtain ⟨x, hx, rfl⟩ := map_str_get hz
  refine eqS_ne fun z => ?_
  subst z
  have := (List.getElem?_inj (by omega) nd).mp (hx.trans (by rw [List.getElem?_eq_getElem hj, e] : ws[j]? = some x).symm)
  omega
theorem cut_from {xs : List V} {n : Nat} : cutV xs (some (n : Int)) none = xs.drop n := by
  unfold cutV
  rw [show HT.sIx xs.length 0 (some (n : Int)) = min n xs.length from HT.sIx_nat xs.length 0 n, HT.sIx_none]
  by_cases h : n ≤ xs.length
  · rw [Nat.min_eq_left h, List.take_of_length_le (by rw [List.length_drop]; exact Nat.le_refl _)]
  · rw [Nat.min_eq_right (by omega), Nat.sub_self, List.take_zero, List.drop_of_length_le (by omega)]
theorem sub_drop {x : Str} {r : List Str} : ∀ {L : List Str} {k : Nat}, (x :: r).Sublist L → L[k]? = some x → L.Nodup → r.Sublist (L.drop (k + 1))
  | [], _, h, _, _ => nomatch h
  | a :: L, 0, h, e, nd => by
    cases e
    cases h with
    | cons _ h => exact absurd (h.subset (List.mem_cons_self ..)) (List.nodup_cons.mp nd).1
    | cons_cons _ h => exact h
  | a :: L, k + 1, h, e, nd => by
    have e' : L[k]? = some x := e
    show r.Sublist (L.drop (k + 1))
    cases h with
    | cons _ h => exact sub_drop (L := L) h e' (List.nodup_cons.mp nd).2
    | cons_cons _ h => exact absurd (List.mem_of_getElem? e') (List.nodup_cons.mp nd).1
abbrev heads6 : List Str := [Str.ofString "needs", Str.ofString "wants", Str.ofString "bars", Str.ofString "after", Str.ofString "opens", Str.ofString "rule"]
theorem heads6_nd : heads6.Nodup := by decide +kernel
def gotF (rs : List (Str × List Str)) : Str → List Str := rs.foldl (fun g r h => if h = r.1 then r.2 else g h) fun _ => []
theorem gotF_snoc (rs : List (Str × List Str)) (r : Str × List Str) (h : Str) : gotF (rs ++ [r]) h = if h = r.1 then r.2 else gotF rs h := by
  unfold gotF
  rw [List.foldl_append]
  rfl
/-- behind each head stands a list -/
def Behind (H : Hp) (kvs : List (Key × V)) (hs : List Str) (g : Str → List Str) : Prop := ∀ h ∈ hs, ∃ a, valV kvs (Sum.inr h : Key) = some (.ref a) ∧ H a = some (.lst ((g h).map V.str))
theorem Behind.same {H H' : Hp} {kvs : List (Key × V)} {hs : List Str} {g : Str → List Str} (h : Behind H kvs hs g) (s : Same H H') : Behind H' kvs hs g := fun x hx => by
  obtain ⟨a, h1, h2⟩ := h x hx
  exact ⟨a, h1, s _ _ h2⟩
theorem Behind.keep {H H' : Hp} {kvs ks : List (Key × V)} {hs : List Str} {g : Str → List Str} {D : Addr} (h : Behind H kvs hs g) (k : Kp D H H') (w : H D = some (.dK ks)) : Behind H' kvs hs g := fun x hx => by
  obtain ⟨a, h1, h2⟩ := h x hx
  exact ⟨a, h1, k _ _ h2 fun e => by rw [e, w] at h2; cases h2⟩
abbrev rowVs (rs : List (Str × List Str)) : List V := rs.map fun r => V.str (rowS (r.1 :: r.2))
/-- a row that can be read -/
def RowOk (r : Str × List Str) : Prop := r.2 ≠ [] ∧ r.2.length ≤ 8 ∧ (rowS (r.1 :: r.2)).length ≤ 100 ∧ ∀ x ∈ r.1 :: r.2, 32 ∉ TL.tl x
/-- a row that nobody can read -/
def BadRow (x : Str) : Prop := x.length ≤ 900 ∧ ∃ z zs, Txt.split x spS = z :: zs ∧ zs.length ≤ 900 ∧ z ∉ heads6
def sp_read_lines (K : PySem.W.Frag) : Sp := fun vs H Q E => ∃ (l : Addr) (rs : List (Str × List Str)) (more : List V), vs = [.ref l] ∧ SqL K H l (rowVs rs ++ more) ∧ (rs.map (·.1)).Sublist heads6 ∧ (∀ r ∈ rs, RowOk r) ∧
  ((more = [] ∧ ∀ D kvs H', H D = none → Same H H' → H' D = some (.dK kvs) → Behind H' kvs heads6 (gotF rs) → Q (.ref D) H') ∨ ∃ (x : Str) (tail : List V), more = .str x :: tail ∧ BadRow x ∧ NoT K H E)
theorem ok_read_lines (T : Txt K mg) : FnOk P w K mg base (L2N.CX P w) 1 (He.fAd K ("read_lines", none)) T.d_read_lines ["lines"] (sp_read_lines K) := by
  refine T.F_read_lines.ok sc_read_lines (fun vs H Q E h => ?_) (fun cdv A outer s H vs Q E hr h => ?_)
  · obtain ⟨l, rs, more, rfl, _⟩ := h
    rfl
  · obtain ⟨l, rs, more, rfl, hl, hsub, hok, q⟩ := h
    refine ⟨_, (pss_cons (UP.ps_setDc (i := 2) (own := [("word", 1)]) (by rfl) sc_read_lines.nd rfl rfl (UP.sw_dict rfl rfl rfl (by decide +kernel)) (pi_tup (pe_glob (v := .ref (He.ga K "LINE_WORDS")) (by rfl) T.m_LINE_WORDS rfl)) (blkOk_by (own := [("word", 1)]) (N := N_read_lines) (sc := defScope s_read_lines) (by decide +kernel)) (fun _ _ _ _ _ => (pg_name (i := 1) sc_read_lines.nd rfl (Or.inl rfl))) (fun _ _ _ _ _ => pts_nil) (fun _ _ _ _ _ => (pv 1)) (fun _ _ _ _ _ => (pe_lst pa_nil)))
      (pss_cons (ps_set (i := 3) sc_read_lines.nd rfl (Or.inl rfl) (pe_callTy (T := "list")  call_list_of (by rfl) T.n_list (by decide +kernel) (pa_cons (pe_glob (v := .ref (He.ga K "LINE_WORDS")) (by rfl) T.m_LINE_WORDS rfl) pa_nil)))
      (pss_cons (ps_for (passes_of rfl) rfl (pi_list (pv 0)) (pg_name (i := 4) sc_read_lines.nd rfl (Or.inl rfl))
      (pss_cons (ps_asg (pe_split (pv 4) pe_str) (UB.pg_rest rfl (pg_name (i := 1) sc_read_lines.nd rfl (Or.inl rfl)) (pg_name (i := 5) sc_read_lines.nd rfl (Or.inl rfl))))
      (pss_cons (ps_if (PW.pt (pw_or (pt_cmpR op_notIn_seq (pv 1) (pv 3) (by rfl)) (pw_or1 (pt_cmpR op_eq (pe_callB (id := "len")  call_len_seq (by rfl) T.n_len (by decide +kernel) (pa_cons (pv 5) pa_nil)) pe_int (nomark _)))))
      (pss_one (L2N.ps_raise (by rfl) (L2N.takes_of rfl rfl rfl rfl) (UF.pm_bare T.bx_NoText (by rfl) T.m_NoText (pa_cons pe_str pa_nil))))
      pss_nil)
      (pss_cons (ps_set (i := 3) sc_read_lines.nd rfl (Or.inl rfl) (pe_slice sl_list (pv 3) (po_some (pe_op op_add (pe_bm PySem.F.plainAttrs_list PySem.F.slot_list_index PySem.F.type_list_index mt_index (pv 3) (pa_cons (pv 1) pa_nil)) pe_int)) po_none))
      (pss_one (ps_dput (hu_of hr) (pv 2) (pv 1) (pv 5) rfl))))))
      (pss_one (ps_ret (pv 2)))))), ?_⟩
    have lw : ∀ H : Hp, SqT K H (He.ga K "LINE_WORDS") (heads6.map V.str) := fun H => UB.GtAt.strs (xs := heads6) T.gt_LINE_WORDS H
    refine ⟨_, rfl, ⟨_, lw H⟩, fun D nD => ?_⟩
    refine dc_it (walk_tup (xs := heads6.map V.str)) (fun i H' => Same H H' ∧ ∃ kvs, H' D = some (.dK kvs) ∧ kvs.length ≤ i ∧ Behind H' kvs (heads6.take i) fun _ => []) ⟨same_upd nD, [], upd_same, Nat.le_refl _, fun h hh => nomatch hh⟩ (fun i H' _ _ => lw H') ?_ ?_
    · rintro i x H1 H1' hi ⟨s1, kvs, w1, le1, b1⟩ ⟨rfl, hx⟩
      obtain ⟨hd, hhd, rfl⟩ := map_str_get hx
      refine ⟨rfl, yes_of (iteT ?_)⟩
      refine ⟨_, rfl, by show 0 ≤ sizeLine; decide, fun A nA => ?_⟩
      generalize hE2 : upd H1' A _ = H2
      have wA := new_at hE2
      have s2 := new_same hE2 nA
      have w2 := s2 _ _ w1
      refine ⟨kvs, Sum.inr hd, rfl, w2, small1000 (by have : i < 6 := hi; omega), Same.own (s1.trans s2) (mut_keep rfl) nD, _, upd_same, Nat.le_trans (length_putK _ _ _) (by omega), fun h hh => ?_⟩
      have nAD : A ≠ D := fun e => by rw [e, w1] at nA; cases nA
      rw [take_snoc hhd] at hh
      rw [valV_put]
      by_cases c : h = hd
      · subst c
        exact ⟨A, if_pos rfl, by rw [upd_ne nAD]; exact wA⟩
      · rw [if_neg fun e => c (Sum.inr.inj e)]
        rcases List.mem_append.mp hh with hh | hh
        · exact ((b1.same s2).keep (mut_keep rfl) w2) h hh
        · exact absurd (List.mem_singleton.mp hh) c
    rintro H1 ⟨s1, kvs, w1, le1, b1⟩
    refine ⟨_, _, rfl, .inr (lw H1), fun L nL => ?_⟩
    generalize hE2 : upd H1 L _ = H2
    have wL := new_at hE2
    have s2 := new_same hE2 nL
    have few : rs.length ≤ 6 := by
      have := hsub.length_le
      rw [List.length_map] at this
      exact this
    refine ⟨_, rfl, l, rfl, ⟨_, SqL.ext hl (s1.trans s2)⟩, for_list (xs := rowVs rs ++ more) (fun i σ H' => i ≤ rs.length ∧ Same H H' ∧ ∃ (kvs : List (Key × V)) (Lf : Addr) (hs : List Str) (y1 y4 y5 : Option V), H' D = some (.dK kvs) ∧ kvs.length ≤ 6 + i ∧ Behind H' kvs heads6 (gotF (rs.take i)) ∧ H' Lf = some (.lst (hs.map V.str)) ∧ hs.Nodup ∧ ((rs.drop i).map (·.1)).Sublist hs ∧ (∀ h ∈ hs, h ∈ heads6) ∧
        σ = [some (.ref l), y1, some (.ref D), some (.ref Lf), y4, y5])
      ⟨Nat.zero_le _, s1.trans s2, kvs, L, heads6, _, _, _, s2 _ _ w1, le1, b1.same s2, wL, heads6_nd, hsub, fun h hh => hh, rfl⟩ (fun i σ H' _ h => SqL.ext hl h.2.1) ?_ ?_⟩
    · rintro i x σ H3 hi ⟨ile, s3, kvs, Lf, hs, y1, y4, y5, w3, le3, b3, wLf, hnd, hsb, hin, rfl⟩
      by_cases iend : i = rs.length
      · subst iend
        rw [List.getElem?_append_right (by rw [List.length_map]; exact Nat.le_refl _), List.length_map, Nat.sub_self] at hi
        rcases q with ⟨rfl, _⟩ | ⟨bx, tail, rfl, ⟨lx, z, zs, cut, lz, nz⟩, qE⟩
        · cases hi
        cases hi
        refine ⟨_, rfl, ⟨_, rfl⟩, _, _, rfl, rfl, by decide +kernel, line_ok (by omega), fun A nA => ?_⟩
        rw [cut]
        generalize hE4 : upd H3 A _ = H4
        have wA := new_at hE4
        have s4 := new_same hE4 nA
        refine ⟨A, _, _, rfl, SqL.of wA, by rw [List.length_map]; omega, fun R nR => ?_⟩
        generalize hE5 : upd H4 R _ = H5
        have s45 := s4.trans (new_same hE5 nR)
        have wLf5 := s45 _ _ wLf
        refine ⟨_, rfl, _, rfl, Lf, _, rfl, .inl (SqL.of wLf5), rfl, strs_flat _, _, rfl, ?_⟩
        rw [inV_str, decide_eq_false (fun m => nz (hin z m))]
        exact iteT (iteT ⟨by show 1 ≤ 1000; decide, qE _ ((s3.trans s45))⟩)
      obtain ⟨r, hr, rfl⟩ : ∃ r, rs[i]? = some r ∧ x = .str (rowS (r.1 :: r.2)) := by
        rw [List.getElem?_append_left (by rw [List.length_map]; omega), List.getElem?_map] at hi
        obtain ⟨r, h1, h2⟩ := Option.map_eq_some_iff.mp hi
        exact ⟨r, h1, h2.symm⟩
      obtain ⟨r0, r8, r100, rfree⟩ := hok r (List.mem_of_getElem? hr)
      have cut : Txt.split (rowS (r.1 :: r.2)) spS = r.1 :: r.2 := sp_cut (List.cons_ne_nil _ _) rfree
      obtain ⟨ri, rlt⟩ : ∃ h : i < rs.length, True := ⟨(List.getElem?_eq_some_iff.mp hr).1, trivial⟩
      have hdrop : rs.drop i = r :: rs.drop (i + 1) := by
        rw [List.drop_eq_getElem_cons ri, (List.getElem?_eq_some_iff.mp hr).2]
      rw [hdrop] at hsb
      refine ⟨_, rfl, ⟨_, rfl⟩, _, _, rfl, rfl, by decide +kernel, line_ok (by omega), fun A nA => ?_⟩
      rw [cut]
      generalize hE4 : upd H3 A _ = H4
      have wA := new_at hE4
      have s4 := new_same hE4 nA
      refine ⟨A, _, _, rfl, SqL.of wA, by rw [List.length_map]; omega, fun R nR => ?_⟩
      generalize hE5 : upd H4 R _ = H5
      have wR := new_at hE5
      have s45 := s4.trans (new_same hE5 nR)
      have wLf5 := s45 _ _ wLf
      have mem : r.1 ∈ hs := hsb.subset (List.mem_cons_self ..)
      refine ⟨_, rfl, _, rfl, Lf, _, rfl, .inl (SqL.of wLf5), rfl, strs_flat _, _, rfl, ?_⟩
      rw [inV_str, decide_eq_true mem]
      refine iteF ⟨_, rfl, R, _, rfl, .inl (SqL.of wR), rfl, _, rfl, ?_⟩
      have r0' : r.2.length ≠ 0 := fun z => r0 (List.length_eq_zero_iff.mp z)
      rw [List.length_map, decide_eq_false (show ¬ V.int (r.2.length : Int) = V.int 0 from fun z => r0' (by injection z; omega))]
      refine iteF ?_
      obtain ⟨k, hk, hkn⟩ := index_of hnd mem
      unfold tNoPart
      refine ⟨_, rfl, _, rfl, .inl ⟨rfl, _, SqL.of wLf5⟩, _, rfl, Lf, _, _, k, .str r.1, rfl, rfl, SqL.of wLf5, rfl, strs_flat _, by rw [List.getElem?_map, hk]; rfl, eqS_self r.1, hkn, _, _, rfl, rfl, _, rfl, Lf, _, rfl, SqL.of wLf5, fun Z nZ => ?_⟩
      rw [show ((k : Int) + 1) = ((k + 1 : Nat) : Int) from rfl, cut_from, ← List.map_drop]
      generalize hE6 : upd H5 Z _ = H6
      have wZ := new_at hE6
      have s6 := s45.trans (new_same hE6 nZ)
      have w6 := s6 _ _ w3
      have nZD : Z ≠ D := fun e => by rw [e, s45 _ _ w3] at nZ; cases nZ
      have wR6 := (new_same hE6 nZ) _ _ wR
      have nRD : R ≠ D := fun e => by rw [e, s4 _ _ w3] at nR; cases nR
      refine ⟨_, rfl, _, rfl, _, rfl, D, _, rfl, .inl ⟨kvs, Sum.inr r.1, w6, rfl, small1000 (by omega), rfl⟩, ?_⟩
      refine ⟨by omega, Same.own (s3.trans s6) (mut_keep rfl) nD, _, Z, hs.drop (k + 1), _, _, _, upd_same, Nat.le_trans (length_putK _ _ _) (by omega), fun h hh => ?_, by rw [upd_ne nZD]; exact wZ, hnd.sublist (List.drop_sublist ..), ?_, fun h hh => hin h (List.mem_of_mem_drop hh), rfl⟩
      · rw [take_snoc hr, gotF_snoc, valV_put]
        by_cases c : h = r.1
        · rw [if_pos c, if_pos (by rw [c])]
          exact ⟨R, rfl, by rw [upd_ne nRD]; exact wR6⟩
        · rw [if_neg c, if_neg fun e => c (Sum.inr.inj e)]
          exact ((b3.same s6).keep (mut_keep rfl) w6) h hh
      · exact sub_drop hsb hk hnd
    · rintro σ H3 ⟨ile, s3, kvs, Lf, hs, y1, y4, y5, w3, le3, b3, wLf, hnd, hsb, hin, rfl⟩
      rcases q with ⟨rfl, q⟩ | ⟨bx, tail, rfl, _⟩
      · rw [List.append_nil, List.length_map, List.take_length] at b3
        exact ⟨_, rfl, q D kvs H3 nD s3 w3 b3⟩
      · rw [List.length_append, List.length_map, List.length_cons] at ile
        omega

-- SPLIT
/-! ### the opened one, the rule -/
def sp_read_opens (K : PySem.W.Frag) : Sp := fun vs H Q _ => ∃ (l : Addr) (own kind : Str) (o : Option Str), vs = [.ref l, .str own, .str kind] ∧ SqL K H l (o.toList.map V.str) ∧ (kind = Str.ofString "door" → o ≠ none) ∧ (kind ≠ Str.ofString "door" → o = none) ∧ (∀ g, o = some g → Nm g ∧ g ≠ own) ∧
  ∀ H', Same H H' → Q (optV o) H'
theorem ok_read_opens (T : Txt K mg) : FnOk P w K mg base CX0 3 (He.fAd K ("read_opens", none)) T.d_read_opens ["words", "own", "kind"] (sp_read_opens K) := by
  refine T.F_read_opens.ok sc_read_opens (fun vs H Q E h => ?_) (fun cdv A outer s H vs Q E hr h => ?_)
  · obtain ⟨l, own, kind, o, rfl, _⟩ := h
    rfl
  · obtain ⟨l, own, kind, o, rfl, hl, h1, h2, hg, q⟩ := h
    refine ⟨_, PSs.nox (pss_cons (ps_if (pt_cmpR op_ne (pe_callB (id := "len")  call_len_seq (by rfl) T.n_len (by decide +kernel) (pa_cons (pv 0) pa_nil)) (pe_ifExp (pt_cmpR op_eq (pv 2) pe_str (nomark _)) pe_int pe_int) (nomark _))
      (pss_one ps_never)
      pss_nil)
      (pss_cons (ps_set (i := 3) sc_read_opens.nd rfl (Or.inl rfl) (pe_call (ok_read_names T) (hr.mono (by decide)) (by rfl) T.m_read_names T.F_read_names.kp T.b_read_names .nil pass0 (pa_cons (pv 0) (pa_cons (pv 1) pa_nil))))
      (pss_one (ps_ret (pe_ifExp (pt_cmpR op_eq (pv 2) pe_str (nomark _)) (pe_ix ix_tup (pv 3) pe_int (fun _ _ => rfl)) pe_non))))), ?_⟩
    have l1 : (o.toList).length ≤ 1 := by
      cases o with
      | none => exact Nat.zero_le _
      | some g => exact Nat.le_refl _
    refine ⟨_, rfl, l, _, rfl, .inl hl, _, rfl, rfl, _, rfl, ?_⟩
    rw [List.length_map]
    by_cases c : kind = Str.ofString "door"
    · obtain ⟨g, rfl⟩ := Option.ne_none_iff_exists'.mp (h1 c)
      subst c
      obtain ⟨hg1, hg2⟩ := hg g rfl
      rw [decide_eq_true rfl]
      refine iteT ⟨rfl, _, rfl, iteF ?_⟩
      refine ⟨_, rfl, _, rfl, l, [g], own, rfl, hl, by show 1 ≤ 8; decide, List.nodup_cons.mpr ⟨List.not_mem_nil, List.nodup_nil⟩, fun x hx => by rw [List.mem_singleton.mp hx]; exact ⟨hg1, hg2⟩, fun t H1 nt s1 wt => ?_⟩
      refine ⟨_, rfl, rfl, _, rfl, ?_⟩
      rw [decide_eq_true rfl]
      exact iteT ⟨_, rfl, t, _, _, _, rfl, rfl, SqT.of wt, at0, q H1 s1⟩
    · obtain rfl := h2 c
      have nc : ¬ V.str kind = V.str (Str.ofString "door") := fun z => c (V.str.inj z)
      rw [decide_eq_false nc]
      refine iteF ⟨rfl, _, rfl, iteF ?_⟩
      refine ⟨_, rfl, _, rfl, l, [], own, rfl, hl, Nat.zero_le _, List.nodup_nil, (fun x hx => absurd hx List.not_mem_nil), fun t H1 nt s1 wt => ?_⟩
      refine ⟨_, rfl, rfl, _, rfl, ?_⟩
      rw [decide_eq_false nc]
      exact iteF (q H1 s1)
def fiveWords : Option (Int × Int × Int × Int × Int) → List Str
  | some (f, m, t, b, s) => words f m t b s
  | none => []
theorem five_get {f m t b s : Int} (W : Wr f m t b s) {j : Nat} {x : V} (h : ((words f m t b s).map V.str)[j]? = some x) : ∃ v, [f, m, t, b, s][j]? = some v ∧ x = .str (nT v) ∧ 0 ≤ v ∧ v ≤ 1000000 := by
  have j5 : j < 5 := (List.getElem?_eq_some_iff.mp h).1
  match j, j5, h with
  | 0, _, h => cases h; exact ⟨f, rfl, rfl, W.f0, W.f1⟩
  | 1, _, h => cases h; exact ⟨m, rfl, rfl, W.m0, W.m1⟩
  | 2, _, h => cases h; exact ⟨t, rfl, rfl, W.t0, W.t1⟩
  | 3, _, h => cases h; exact ⟨b, rfl, rfl, W.b0, W.b1⟩
  | 4, _, h => cases h; exact ⟨s, rfl, rfl, W.s0, W.s1⟩
abbrev bounds5 : List (Int × Int) := [(1, 1000), (1, 10), (1, 1000000), (0, 20), (0, 1000000)]
theorem five_in {f m t b s : Int} (F : Five f m t b s) {j : Nat} {v : Int} {p : Int × Int} (h : [f, m, t, b, s][j]? = some v) (hp : bounds5[j]? = some p) : p.1 ≤ v ∧ v ≤ p.2 := by
  have j5 : j < 5 := (List.getElem?_eq_some_iff.mp h).1
  match j, j5, h, hp with
  | 0, _, h, hp => cases h; cases hp; exact ⟨F.f1, F.f2⟩
  | 1, _, h, hp => cases h; cases hp; exact ⟨F.m1, F.m2⟩
  | 2, _, h, hp => cases h; cases hp; exact ⟨F.t1, F.t2⟩
  | 3, _, h, hp => cases h; cases hp; exact ⟨F.b1, F.b2⟩
  | 4, _, h, hp => cases h; cases hp; exact ⟨F.s1, F.s2⟩
theorem _root_.UB.All.len {vs : List V} {gs : List UB.Gt} (h : UB.All K vs gs) : vs.length = gs.length := by
  induction h with
  | nil => rfl
  | cons _ _ ih => rw [List.length_cons, List.length_cons, ih]
theorem _root_.UB.All.pair {ps : List (Int × Int)} : ∀ {vs : List V}, UB.All K vs (ps.map fun p => UB.Gt.p p.1 p.2) → ∀ {j : Nat} {v : V}, vs[j]? = some v → ∃ p t, ps[j]? = some p ∧ v = .ref t ∧ ∀ H, SqT K H t [.int p.1, .int p.2] := by
  induction ps with
  | nil =>
    intro vs h j v e
    cases h
    cases e
  | cons p ps ih =>
    intro vs h j v e
    cases h with
    | cons a r =>
      cases j with
      | zero =>
        cases e
        obtain ⟨t, e, h⟩ := a
        exact ⟨p, t, rfl, e, h⟩
      | succ j => exact ih r e
def sp_read_rule (K : PySem.W.Frag) : Sp := fun vs H Q _ => ∃ (l : Addr) (o : Option (Int × Int × Int × Int × Int)), vs = [.ref l] ∧ SqL K H l ((fiveWords o).map V.str) ∧ (∀ f m t b s, o = some (f, m, t, b, s) → Five f m t b s) ∧
  ∀ rv H', Same H H' → RuleOpt K H' rv o → Q rv H'
theorem ok_read_rule (T : Txt K mg) : FnOk P w K mg base CX0 3 (He.fAd K ("read_rule", none)) T.d_read_rule ["words"] (sp_read_rule K) := by
  refine T.F_read_rule.ok sc_read_rule (fun vs H Q E h => ?_) (fun cdv A outer s H vs Q E hr h => ?_)
  · obtain ⟨l, o, rfl, _⟩ := h
    rfl
  · obtain ⟨l, o, rfl, hl, h5, q⟩ := h
    refine ⟨_, PSs.nox (pss_cons (ps_if (pt_cmpR op_eq (pe_callB (id := "len")  call_len_seq (by rfl) T.n_len (by decide +kernel) (pa_cons (pv 0) pa_nil)) pe_int (nomark _))
      (pss_one (ps_ret pe_non))
      pss_nil)
      (pss_cons (ps_if (pt_cmpR op_ne (pe_callB (id := "len")  call_len_seq (by rfl) T.n_len (by decide +kernel) (pa_cons (pv 0) pa_nil)) (pe_callB (id := "len")  call_len_seq (by rfl) T.n_len (by decide +kernel) (pa_cons (pe_glob (v := .ref (He.ga K "RULE_BOUNDS")) (by rfl) T.m_RULE_BOUNDS rfl) pa_nil)) (nomark _))
      (pss_one ps_never)
      pss_nil)
      (pss_cons (ps_setLc (i := 1) (own := [("word", 10)]) (by rfl) sc_read_rule.nd rfl rfl (sw_true rfl rfl rfl (by decide +kernel)) (pi_list (pv 0)) (blkOk_by (own := [("word", 10)]) (N := N_read_rule) (sc := defScope s_read_rule) (by decide +kernel)) (fun _ _ _ _ _ => (pg_name (i := 10) sc_read_rule.nd rfl (Or.inl rfl))) (fun _ _ _ _ _ => pts_nil) (fun _ _ _ _ _ => (pe_call (ok_number_in T) (hr.mono (by decide)) (by rfl) T.m_number_in T.F_number_in.kp T.b_number_in .nil pass0 (pa_cons (pv 10) pa_nil))))
      (pss_cons (ps_for PassesOwn.never rfl (UB.pi_zipLT (by rfl) T.n_zip (pa_cons (pv 1) (pa_cons (pe_glob (v := .ref (He.ga K "RULE_BOUNDS")) (by rfl) T.m_RULE_BOUNDS rfl) pa_nil))) (pg_tup rfl (pgs_cons (pg_name (i := 2) sc_read_rule.nd rfl (Or.inl rfl)) (pgs_cons (pg_tup rfl (pgs_cons (pg_name (i := 3) sc_read_rule.nd rfl (Or.inl rfl)) (pgs_cons (pg_name (i := 4) sc_read_rule.nd rfl (Or.inl rfl)) pgs_nil))) pgs_nil)))
      (pss_one (ps_if (PW.pt (pw_or (pt_cmpR op_isN (pv 2) pe_non (nomark _)) (pw_or1 (pt_not (pt_chain op_le op_le (pv 3) (pv 2) (pv 4))))))
      (pss_one ps_never)
      pss_nil)))
      (pss_cons (ps_asg (pv 1) (pg_lst rfl (pgs_cons (pg_name (i := 5) sc_read_rule.nd rfl (Or.inl rfl)) (pgs_cons (pg_name (i := 6) sc_read_rule.nd rfl (Or.inl rfl)) (pgs_cons (pg_name (i := 7) sc_read_rule.nd rfl (Or.inl rfl)) (pgs_cons (pg_name (i := 8) sc_read_rule.nd rfl (Or.inl rfl)) (pgs_cons (pg_name (i := 9) sc_read_rule.nd rfl (Or.inl rfl)) pgs_nil)))))))
      (pss_one (ps_ret (pe_makeK0 T.mk_Rule (ok_Rule_init T) (hr.mono (by decide)) (by rfl) T.m_Rule T.kb_Rule_init_1_first_times_top_burst_span.choose_spec pass0 (pk_cons (pv 5) (pk_cons (pv 6) (pk_cons (pv 7) (pk_cons (pv 8) (pk_cons (pv 9) pk_nil))))))))))))), ?_⟩
    cases o with
    | none =>
      refine ⟨_, rfl, l, _, rfl, .inl hl, rfl, _, rfl, ?_⟩
      exact iteT (q _ _ (Same.refl _) rfl)
    | some v5 =>
      obtain ⟨f, m, t, b, s5⟩ := v5
      have F := h5 f m t b s5 rfl
      have W := Five.wr F
      obtain ⟨bs, hB, all⟩ := T.gt_RULE_BOUNDS
      have l5 := all.len
      refine ⟨_, rfl, l, _, rfl, .inl hl, rfl, _, rfl, iteF ?_⟩
      refine ⟨_, rfl, l, _, rfl, .inl hl, _, _, rfl, .inr (hB H), rfl, _, rfl, ?_⟩
      rw [l5]
      refine iteF ?_
      refine ⟨_, rfl, l, rfl, ⟨_, hl⟩, fun D nD => ?_⟩
      refine lc_list (xs := ((fiveWords (some (f, m, t, b, s5))).map V.str)) (fun j H' => Same H H' ∧ H' D = some (.lst (([f, m, t, b, s5].take j).map V.int))) ⟨same_upd nD, upd_same⟩ (fun j H' _ h => SqL.ext hl h.1) ?_ ?_
      · rintro j x H3 hj ⟨s3, w3⟩
        obtain ⟨v, hv, rfl, v0, v1⟩ := five_get W hj
        obtain ⟨n, rfl⟩ := Int.eq_ofNat_of_zero_le v0
        refine ⟨rfl, yes_of (iteT ?_)⟩
        refine ⟨_, rfl, n, rfl, by omega, fun H4 s4 => ?_⟩
        have hjl : j < 5 := (List.getElem?_eq_some_iff.mp hv).1
        refine ⟨_, s4 _ _ w3, ?_, Same.own (s3.trans s4) (mut_keep rfl) nD, ?_⟩
        · rw [List.length_map]
          exact Nat.lt_of_le_of_lt (List.length_take_le ..) (small1000 (by omega))
        · rw [upd_same, take_snoc hv, List.map_append]
          rfl
      · rintro H3 ⟨s3, w3⟩
        have w5 : H3 D = some (.lst ([f, m, t, b, s5].map V.int)) := w3
        refine ⟨_, rfl, D, _, _, _, rfl, SqL.of w5, hB H3, ?_⟩
        refine for_it (UB.walk_lt (xs := [f, m, t, b, s5].map V.int) (by rw [l5]; rfl)) (fun j σ H' => Same H3 H' ∧ ∃ y2 y3 y4 : Option V, σ = [some (.ref l), some (.ref D), y2, y3, y4, none, none, none, none, none, none]) ⟨Same.refl _, _, _, _, rfl⟩ (fun j σ H' _ h => ⟨SqL.of (h.1 _ _ w5), hB H'⟩) ?_ ?_
        · rintro j x σ H4 H4' hj ⟨s4, y2, y3, y4, rfl⟩ ⟨T2, v, v', rfl, nT, rfl, hv, hv'⟩
          generalize hE5 : upd H4 T2 _ = H5
          have wT := new_at hE5
          have s5' := s4.trans (new_same hE5 nT)
          obtain ⟨p, t2, hp, rfl, hpt⟩ := UB.All.pair (ps := bounds5) all hv'
          obtain ⟨z, hz, rfl⟩ : ∃ z, [f, m, t, b, s5][j]? = some z ∧ v = .int z := by
            have hv : ([f, m, t, b, s5].map V.int)[j]? = some v := hv
            rw [List.getElem?_map] at hv
            obtain ⟨z, h1, h2⟩ := Option.map_eq_some_iff.mp hv
            exact ⟨z, h1, h2.symm⟩
          obtain ⟨b1, b2⟩ := five_in F hz hp
          refine ⟨T2, _, rfl, SqT.of wT, rfl, _, _, rfl, _, _, rfl, t2, _, rfl, hpt H5, rfl, _, _, rfl, _, _, rfl, rfl, rfl, ?_⟩
          refine ⟨_, rfl, rfl, _, rfl, ?_⟩
          rw [decide_eq_false (show ¬ V.int z = V.non from fun z => nomatch z)]
          refine iteF ⟨_, rfl, _, rfl, _, _, rfl, rfl, _, rfl, ?_⟩
          rw [decide_eq_true b1]
          refine iteT ⟨_, rfl, _, _, rfl, rfl, _, rfl, ?_⟩
          rw [decide_eq_true b2]
          exact iteF ⟨s5', _, _, _, rfl⟩
        · rintro σ H4 ⟨s4, y2, y3, y4, rfl⟩
          refine ⟨_, rfl, D, _, rfl, SqL.of (s4 _ _ w5), rfl, _, _, rfl, _, _, rfl, _, _, rfl, _, _, rfl, _, _, rfl, rfl, ?_⟩
          refine ⟨_, rfl, _, rfl, _, rfl, _, rfl, _, rfl, rfl, rfl, fun x dx nx nd ne => ?_⟩
          refine ⟨x, dx, f, m, t, b, s5, rfl, upd_same, fun H' w kp => ⟨rfl, q _ H' (s3.trans (s4.trans (Same.made nx nd fun b o e n => kp b o e n))) ⟨x, rfl, dx, w⟩⟩⟩

-- SPLIT
/-! ### a unit, read back -/
def six (u : UF) : List (Str × List Str) := [(Str.ofString "needs", u.needs), (Str.ofString "wants", u.wants), (Str.ofString "bars", u.bars), (Str.ofString "after", u.after), (Str.ofString "opens", u.opens.toList), (Str.ofString "rule", fiveWords u.five)]
abbrev full (L : List (Str × List Str)) : List (Str × List Str) := L.filter fun p => decide (p.2 ≠ [])
def pairRows (u : UF) : List (Str × List Str) := full (six u)
theorem fold_out {h : Str} : ∀ (L : List (Str × List Str)) (g : Str → List Str), h ∉ L.map (·.1) → L.foldl (fun g r h => if h = r.1 then r.2 else g h) g h = g h
  | [], _, _ => rfl
  | p :: L, g, n => by
    rw [List.foldl_cons, fold_out L _ fun m => n (List.mem_cons_of_mem _ m)]
    exact if_neg fun e => n (by rw [e]; exact List.mem_cons_self ..)
theorem fold_in {h : Str} {xs : List Str} : ∀ (L : List (Str × List Str)) (g : Str → List Str), (L.map (·.1)).Nodup → (h, xs) ∈ L → g h = [] → (full L).foldl (fun g r h => if h = r.1 then r.2 else g h) g h = xs
  | [], _, _, m, _ => nomatch m
  | p :: L, g, nd, m, e => by
    obtain ⟨n1, n2⟩ := List.nodup_cons.mp nd
    have n1' : p.1 ∉ (full L).map (·.1) := fun z => n1 (by
      obtain ⟨r, hr, er⟩ := List.mem_map.mp z
      exact List.mem_map.mpr ⟨r, (List.mem_filter.mp hr).1, er⟩)
    unfold full at n1' ⊢
    rcases List.mem_cons.mp m with e2 | m
    · subst e2
      by_cases c : xs = []
      · rw [List.filter_cons_of_neg (by simp [c]), fold_out _ _ n1', e, c]
      · rw [List.filter_cons_of_pos (by simp [c]), List.foldl_cons, fold_out _ _ n1']
        exact if_pos rfl
    · have hp : h ≠ p.1 := fun z => n1 (List.mem_map.mpr ⟨_, m, z⟩)
      by_cases c : p.2 = []
      · rw [List.filter_cons_of_neg (by simp [c])]
        exact fold_in L g n2 m e
      · rw [List.filter_cons_of_pos (by simp [c]), List.foldl_cons]
        exact fold_in L _ n2 m (by rw [if_neg hp]; exact e)
theorem got_six {u : UF} {h : Str} {xs : List Str} (m : (h, xs) ∈ six u) : gotF (pairRows u) h = xs := fold_in (six u) _ heads6_nd m rfl
theorem full_row (h : Str) (xs : List Str) (L : List (Str × List Str)) : (full ((h, xs) :: L)).map (fun p => p.1 :: p.2) = rowL h xs ++ (full L).map fun p => p.1 :: p.2 := by
  unfold full rowL
  by_cases c : xs = []
  · rw [List.filter_cons_of_neg (by simp [c]), if_pos c]
    rfl
  · rw [List.filter_cons_of_pos (by simp [c]), if_neg c]
    rfl
theorem behind_eq (u : UF) : behindRows u = (pairRows u).map fun p => p.1 :: p.2 := by
  have e1 : rowO u.opens = rowL (Str.ofString "opens") u.opens.toList := by
    cases u.opens with
    | none => rfl
    | some g => rfl
  have e2 : rowF u.five = rowL (Str.ofString "rule") (fiveWords u.five) := by
    rcases u.five with _ | ⟨f, m, t, b, s⟩
    · rfl
    · rfl
  unfold pairRows six behindRows
  rw [full_row, full_row, full_row, full_row, full_row, full_row, e1, e2]
  show _ = _ ++ (_ ++ (_ ++ (_ ++ (_ ++ (_ ++ [])))))
  simp only [List.append_nil, List.append_assoc]
theorem six_heads (u : UF) : ((pairRows u).map (·.1)).Sublist heads6 := by
  unfold pairRows full
  have := (List.filter_sublist (l := six u) (p := fun p => decide (p.2 ≠ []))).map (·.1)
  exact this
/-- letters and figures only -/
theorem Tx.free {w : Str} {u : UF} (h : Tx w u) {ws : List Str} (hw : ws ∈ unitRows w u) {x : Str} (hx : x ∈ ws) {c : Nat} (hc : c ∈ TL.tl x) : 48 ≤ c ∧ c ≤ 122 := by
  have nm : ∀ x ∈ u.named, ∀ c ∈ TL.tl x, 48 ≤ c ∧ c ≤ 122 := fun x hx c hc => by
    have := (h.named x hx).1.1 c hc
    omega
  have word : ∀ z ∈ ["unit", "work", "goal", "door", "needs", "wants", "bars", "after", "opens", "rule"], ∀ c ∈ TL.tl (Str.ofString z), 48 ≤ c ∧ c ≤ 122 := by decide +kernel
  have num : ∀ i : Int, 0 ≤ i → ∀ c ∈ TL.tl (nT i), 48 ≤ c ∧ c ≤ 122 := fun i h0 c hc => by
    obtain ⟨n, rfl⟩ := Int.eq_ofNat_of_zero_le h0
    have : TL.tl (nT (n : Int)) = TL.numL n := TL.tl_num n
    rw [this] at hc
    have := TL.numL_digits n c hc
    omega
  unfold UF.named at nm
  simp only [List.mem_append] at nm
  unfold unitRows at hw
  rcases List.mem_cons.mp hw with rfl | hw
  · simp only [List.mem_cons, List.not_mem_nil, or_false] at hx
    rcases hx with rfl | rfl | rfl
    · exact word "unit" (by decide) c hc
    · have := h.nm.1 c hc
      omega
    · rcases h.kd with e | e | e <;> rw [e] at hc
      · exact word "work" (by decide) c hc
      · exact word "goal" (by decide) c hc
      · exact word "door" (by decide) c hc
  · rw [behind_eq] at hw
    obtain ⟨p, hp, rfl⟩ := List.mem_map.mp hw
    have hp := (List.mem_filter.mp hp).1
    unfold six at hp
    simp only [List.mem_cons, List.not_mem_nil, or_false] at hp
    rcases hp with rfl | rfl | rfl | rfl | rfl | rfl
    · rcases List.mem_cons.mp hx with rfl | hx
      · exact word "needs" (by decide) c hc
      · exact nm x (.inl (.inl (.inl (.inl hx)))) c hc
    · rcases List.mem_cons.mp hx with rfl | hx
      · exact word "wants" (by decide) c hc
      · exact nm x (.inl (.inl (.inl (.inr hx)))) c hc
    · rcases List.mem_cons.mp hx with rfl | hx
      · exact word "bars" (by decide) c hc
      · exact nm x (.inl (.inl (.inr hx))) c hc
    · rcases List.mem_cons.mp hx with rfl | hx
      · exact word "after" (by decide) c hc
      · exact nm x (.inl (.inr hx)) c hc
    · rcases List.mem_cons.mp hx with rfl | hx
      · exact word "opens" (by decide) c hc
      · cases ho : u.opens with
        | none =>
          rw [show (u.opens).toList = [] by rw [ho]; rfl] at hx
          cases hx
        | some g =>
          rw [show (u.opens).toList = [g] by rw [ho]; rfl] at hx
          rw [List.mem_singleton.mp hx] at hc
          exact nm g (.inr (by rw [ho]; exact List.mem_singleton.mpr rfl)) c hc
    · rcases List.mem_cons.mp hx with rfl | hx
      · exact word "rule" (by decide) c hc
      · cases hv : u.five with
        | none =>
          rw [show fiveWords u.five = [] by rw [hv]; rfl] at hx
          cases hx
        | some v5 =>
          obtain ⟨f, m, t, b, s⟩ := v5
          have W := Five.wr (h.five f m t b s hv)
          rw [show fiveWords u.five = words f m t b s by rw [hv]; rfl] at hx
          simp only [List.mem_cons, List.not_mem_nil, or_false] at hx
          rcases hx with rfl | rfl | rfl | rfl | rfl
          · exact num f W.f0 c hc
          · exact num m W.m0 c hc
          · exact num t W.t0 c hc
          · exact num b W.b0 c hc
          · exact num s W.s0 c hc
theorem row_free {c : Nat} (hs : c ∉ TL.tl spS) : ∀ ws : List Str, (∀ x ∈ ws, c ∉ TL.tl x) → c ∉ TL.tl (Str.join spS ws)
  | [], _ => by
    show c ∉ TL.tl Str.empty
    rw [show TL.tl Str.empty = [] by decide +kernel]
    exact List.not_mem_nil
  | [x], h => h x (List.mem_singleton.mpr rfl)
  | x :: z :: r, h => by
    show c ∉ TL.tl (x ++ spS ++ Str.join spS (z :: r))
    rw [TL.tl_append, TL.tl_append]
    intro m
    rcases List.mem_append.mp m with m | m
    · rcases List.mem_append.mp m with m | m
      · exact h x (List.mem_cons_self ..) m
      · exact hs m
    · exact row_free hs (z :: r) (fun y hy => h y (List.mem_cons_of_mem _ hy)) m
theorem Tx.cut {w : Str} {u : UF} (h : Tx w u) : Txt.split (unitText w u) nlS = (unitRows w u).map rowS := nl_cut (by show _ :: _ ≠ []; exact List.cons_ne_nil _ _) fun x hx => by
  obtain ⟨ws, hw, rfl⟩ := List.mem_map.mp hx
  unfold rowS
  rw [TL.join_eq]
  exact row_free (by decide +kernel) ws fun x hx hc => by
    have := h.free hw hx hc
    omega
theorem Tx.len {w : Str} {u : UF} (h : Tx w u) : (unitText w u).length ≤ 800 := by
  obtain ⟨r7, r100⟩ := h.rows
  have sm := sum_le 100 _ r100
  have jl := join_len nlS ((unitRows w u).map rowS)
  have ln : nlS.length = 1 := by decide +kernel
  unfold unitText
  rw [TL.join_eq]
  rw [ln] at jl
  omega
theorem Tx.rowOk {w : Str} {u : UF} (h : Tx w u) : ∀ r ∈ pairRows u, RowOk r := fun r hr => by
  have hm : (r.1 :: r.2) ∈ unitRows w u := by
    unfold unitRows
    rw [behind_eq]
    exact List.mem_cons_of_mem _ (List.mem_map_of_mem (f := fun p : Str × List Str => p.1 :: p.2) hr)
  obtain ⟨_, l9, l8⟩ := h.small.2 _ hm
  have rl := row_len 8 l8
  rw [List.length_cons] at l9 rl
  refine ⟨of_decide_eq_true (List.mem_filter.mp hr).2, by omega, by omega, fun x hx hc => ?_⟩
  have := h.free hm hx hc
  omega
/-- a text that nobody can read as a unit: its first line, or a later one -/
def BadU (x : Str) : Prop := x.length ≤ 18000 ∧ ∃ hd ls, Txt.split x nlS = hd :: ls ∧ ls.length ≤ 900 ∧ ((hd.length ≤ 900 ∧ (Txt.split hd spS).length ≠ 3) ∨
  ∃ (w k : Str) (rs : List (Str × List Str)) (bad : Str) (tail : List Str), hd = rowS [Str.ofString "unit", w, k] ∧ Nm w ∧ (k = Str.ofString "work" ∨ k = Str.ofString "goal" ∨ k = Str.ofString "door") ∧ (rs.map (·.1)).Sublist heads6 ∧ (∀ r ∈ rs, RowOk r) ∧ ls = (rs.map fun r => rowS (r.1 :: r.2)) ++ bad :: tail ∧ BadRow bad)
def sp_read_unit (K : PySem.W.Frag) : Sp := fun vs H Q E => (∃ (w : Str) (u : UF), vs = [.str (unitText w u)] ∧ Tx w u ∧
  ∀ p H', H p = none → Same H H' → UnitAt K H' p w u → Q (.ref p) H') ∨ ∃ x : Str, vs = [.str x] ∧ BadU x ∧ NoT K H E
theorem ok_read_unit (T : Txt K mg) : FnOk P w K mg base (L2N.CX P w) 4 (He.fAd K ("read_unit", none)) T.d_read_unit ["text"] (sp_read_unit K) := by
  refine T.F_read_unit.ok sc_read_unit (fun vs H Q E h => ?_) (fun cdv A outer s H vs Q E hr h => ?_)
  · rcases h with ⟨w, u, rfl, _⟩ | ⟨x, rfl, _⟩
    · rfl
    · rfl
  · rcases h with ⟨w, u, rfl, hT, q⟩ | ⟨x, rfl, ⟨lx, hd, ls, cut, ll, bad⟩, qE⟩
    rotate_left
    · refine ⟨_, (pss_cons (ps_if (pt_not (pt_val (pe_callB (id := "isinstance")  call_isi (by rfl) T.n_isinstance (by decide +kernel) (pa_cons (pv 0) (pa_cons (pe_bltn (v := .ty "str") (u := .type "str") (by rfl) T.n_str (by decide +kernel) rfl) pa_nil)))))
      (pss_one (L2N.ps_raise (by rfl) (L2N.takes_of rfl rfl rfl rfl) (UF.pm_bare T.bx_NoText (by rfl) T.m_NoText (pa_cons pe_str pa_nil))))
      pss_nil)
      (pss_cons (ps_asg (pe_split (pv 0) pe_str) (UB.pg_rest rfl (pg_name (i := 1) sc_read_unit.nd rfl (Or.inl rfl)) (pg_name (i := 2) sc_read_unit.nd rfl (Or.inl rfl))))
      (pss_cons (ps_asg (pe_call (ok_read_head T) (hr.mono (by decide)) (by rfl) T.m_read_head T.F_read_head.kp T.b_read_head .nil (L2N.passes_call (L2N.takes_of rfl rfl rfl rfl) (fun _ _ _ _ z => z)) (pa_cons (pv 1) pa_nil)) (pg_tup rfl (pgs_cons (pg_name (i := 3) sc_read_unit.nd rfl (Or.inl rfl)) (pgs_cons (pg_name (i := 4) sc_read_unit.nd rfl (Or.inl rfl)) pgs_nil))))
      (pss_cons (ps_set (i := 5) sc_read_unit.nd rfl (Or.inl rfl) (pe_call (ok_read_lines T) (hr.mono (by decide)) (by rfl) T.m_read_lines T.F_read_lines.kp T.b_read_lines .nil (L2N.passes_call (L2N.takes_of rfl rfl rfl rfl) (fun _ _ _ _ z => z)) (pa_cons (pv 2) pa_nil)))
      (pss_one (ps_ret (pe_makeK T.mk_Unit (ok_Unit_init T) (hr.mono (by decide)) (by rfl) T.m_Unit T.kb_Unit_init_2_kind_needs_wants_bars_after_opens_rule.choose_spec pass0 (pa_cons (pv 3) pa_nil) (pk_cons (pv 4) (pk_cons (pe_call (ok_read_names T) (hr.mono (by decide)) (by rfl) T.m_read_names T.F_read_names.kp T.b_read_names .nil pass0 (pa_cons (pe_dget (hu_of hr) (pv 5) pe_str (fun _ _ => rfl)) (pa_cons (pv 3) pa_nil))) (pk_cons (pe_call (ok_read_names T) (hr.mono (by decide)) (by rfl) T.m_read_names T.F_read_names.kp T.b_read_names .nil pass0 (pa_cons (pe_dget (hu_of hr) (pv 5) pe_str (fun _ _ => rfl)) (pa_cons (pv 3) pa_nil))) (pk_cons (pe_call (ok_read_names T) (hr.mono (by decide)) (by rfl) T.m_read_names T.F_read_names.kp T.b_read_names .nil pass0 (pa_cons (pe_dget (hu_of hr) (pv 5) pe_str (fun _ _ => rfl)) (pa_cons (pv 3) pa_nil))) (pk_cons (pe_call (ok_read_names T) (hr.mono (by decide)) (by rfl) T.m_read_names T.F_read_names.kp T.b_read_names .nil pass0 (pa_cons (pe_dget (hu_of hr) (pv 5) pe_str (fun _ _ => rfl)) (pa_cons (pv 3) pa_nil))) (pk_cons (pe_call (ok_read_opens T) (hr.mono (by decide)) (by rfl) T.m_read_opens T.F_read_opens.kp T.b_read_opens .nil pass0 (pa_cons (pe_dget (hu_of hr) (pv 5) pe_str (fun _ _ => rfl)) (pa_cons (pv 3) (pa_cons (pv 4) pa_nil)))) (pk_cons (pe_call (ok_read_rule T) (hr.mono (by decide)) (by rfl) T.m_read_rule T.F_read_rule.kp T.b_read_rule .nil pass0 (pa_cons (pe_dget (hu_of hr) (pv 5) pe_str (fun _ _ => rfl)) pa_nil)) pk_nil)))))))))))))), ?_⟩
      have l1 : nlS.length = 1 := by decide +kernel
      refine ⟨_, rfl, _, _, _, _, true, rfl, .ty "str", .base (.str _), kit_ty (by decide +kernel), _, rfl, iteF ?_⟩
      refine ⟨_, rfl, ⟨_, rfl⟩, _, _, rfl, rfl, by rw [l1]; decide, lo16 (by omega), fun A nA => ?_⟩
      rw [cut]
      generalize hE1 : upd H A _ = H1
      have wA := new_at hE1
      have s1 := new_same hE1 nA
      refine ⟨A, .str hd, ls.map V.str, rfl, SqL.of wA, by rw [List.length_map]; omega, fun R nR => ?_⟩
      generalize hE2 : upd H1 R _ = H2
      have wR := new_at hE2
      have s2 := s1.trans (new_same hE2 nR)
      rcases bad with ⟨lh, n3⟩ | ⟨w, k, rs, bad, tail, rfl, hw, hk, hsub, hok, rfl, hbad⟩
      · exact ⟨_, rfl, .inr ⟨hd, rfl, lh, n3, fun H' s' => qE _ (s2.trans s')⟩⟩
      · refine ⟨_, rfl, .inl ⟨w, k, rfl, hw, hk, fun t H3 nt s3 wt => ?_⟩⟩
        refine ⟨t, _, rfl, SqT.of wt, rfl, _, _, rfl, _, _, rfl, rfl, ?_⟩
        refine ⟨_, rfl, R, rs, .str bad :: tail.map V.str, rfl, ?_, hsub, hok, .inr ⟨bad, _, rfl, hbad, fun H' s' => qE _ ((s2.trans s3).trans s')⟩⟩
        rw [List.map_append, List.map_map] at wR
        exact SqL.of (s3 _ _ wR)
    refine ⟨_, (pss_cons (ps_if (pt_not (pt_val (pe_callB (id := "isinstance")  call_isi (by rfl) T.n_isinstance (by decide +kernel) (pa_cons (pv 0) (pa_cons (pe_bltn (v := .ty "str") (u := .type "str") (by rfl) T.n_str (by decide +kernel) rfl) pa_nil)))))
      (pss_one (L2N.ps_raise (by rfl) (L2N.takes_of rfl rfl rfl rfl) (UF.pm_bare T.bx_NoText (by rfl) T.m_NoText (pa_cons pe_str pa_nil))))
      pss_nil)
      (pss_cons (ps_asg (pe_split (pv 0) pe_str) (UB.pg_rest rfl (pg_name (i := 1) sc_read_unit.nd rfl (Or.inl rfl)) (pg_name (i := 2) sc_read_unit.nd rfl (Or.inl rfl))))
      (pss_cons (ps_asg (pe_call (ok_read_head T) (hr.mono (by decide)) (by rfl) T.m_read_head T.F_read_head.kp T.b_read_head .nil (L2N.passes_call (L2N.takes_of rfl rfl rfl rfl) (fun _ _ _ _ z => z)) (pa_cons (pv 1) pa_nil)) (pg_tup rfl (pgs_cons (pg_name (i := 3) sc_read_unit.nd rfl (Or.inl rfl)) (pgs_cons (pg_name (i := 4) sc_read_unit.nd rfl (Or.inl rfl)) pgs_nil))))
      (pss_cons (ps_set (i := 5) sc_read_unit.nd rfl (Or.inl rfl) (pe_call (ok_read_lines T) (hr.mono (by decide)) (by rfl) T.m_read_lines T.F_read_lines.kp T.b_read_lines .nil (L2N.passes_call (L2N.takes_of rfl rfl rfl rfl) (fun _ _ _ _ z => z)) (pa_cons (pv 2) pa_nil)))
      (pss_one (ps_ret (pe_makeK T.mk_Unit (ok_Unit_init T) (hr.mono (by decide)) (by rfl) T.m_Unit T.kb_Unit_init_2_kind_needs_wants_bars_after_opens_rule.choose_spec pass0 (pa_cons (pv 3) pa_nil) (pk_cons (pv 4) (pk_cons (pe_call (ok_read_names T) (hr.mono (by decide)) (by rfl) T.m_read_names T.F_read_names.kp T.b_read_names .nil pass0 (pa_cons (pe_dget (hu_of hr) (pv 5) pe_str (fun _ _ => rfl)) (pa_cons (pv 3) pa_nil))) (pk_cons (pe_call (ok_read_names T) (hr.mono (by decide)) (by rfl) T.m_read_names T.F_read_names.kp T.b_read_names .nil pass0 (pa_cons (pe_dget (hu_of hr) (pv 5) pe_str (fun _ _ => rfl)) (pa_cons (pv 3) pa_nil))) (pk_cons (pe_call (ok_read_names T) (hr.mono (by decide)) (by rfl) T.m_read_names T.F_read_names.kp T.b_read_names .nil pass0 (pa_cons (pe_dget (hu_of hr) (pv 5) pe_str (fun _ _ => rfl)) (pa_cons (pv 3) pa_nil))) (pk_cons (pe_call (ok_read_names T) (hr.mono (by decide)) (by rfl) T.m_read_names T.F_read_names.kp T.b_read_names .nil pass0 (pa_cons (pe_dget (hu_of hr) (pv 5) pe_str (fun _ _ => rfl)) (pa_cons (pv 3) pa_nil))) (pk_cons (pe_call (ok_read_opens T) (hr.mono (by decide)) (by rfl) T.m_read_opens T.F_read_opens.kp T.b_read_opens .nil pass0 (pa_cons (pe_dget (hu_of hr) (pv 5) pe_str (fun _ _ => rfl)) (pa_cons (pv 3) (pa_cons (pv 4) pa_nil)))) (pk_cons (pe_call (ok_read_rule T) (hr.mono (by decide)) (by rfl) T.m_read_rule T.F_read_rule.kp T.b_read_rule .nil pass0 (pa_cons (pe_dget (hu_of hr) (pv 5) pe_str (fun _ _ => rfl)) pa_nil)) pk_nil)))))))))))))), ?_⟩
    have lT := hT.len
    have l1 : nlS.length = 1 := by decide +kernel
    refine ⟨_, rfl, _, _, _, _, true, rfl, .ty "str", .base (.str _), kit_ty (by decide +kernel), _, rfl, iteF ?_⟩
    refine ⟨_, rfl, ⟨_, rfl⟩, _, _, rfl, rfl, by rw [l1]; decide, line_ok (by omega), fun A nA => ?_⟩
    rw [hT.cut]
    generalize hE1 : upd H A _ = H1
    have wA := new_at hE1
    have s1 := new_same hE1 nA
    obtain ⟨r7, _⟩ := hT.rows
    have lb : (behindRows u).length ≤ 6 := by
      unfold unitRows at r7
      rw [List.length_map, List.length_cons] at r7
      omega
    refine ⟨A, .str (rowS [Str.ofString "unit", w, u.kind]), ((behindRows u).map rowS).map V.str, rfl, SqL.of wA, by rw [List.length_map, List.length_map]; omega, fun R nR => ?_⟩
    generalize hE2 : upd H1 R _ = H2
    have wR := new_at hE2
    have s2 := s1.trans (new_same hE2 nR)
    have eR : ((behindRows u).map rowS).map V.str = rowVs (pairRows u) := by
      rw [behind_eq, List.map_map, List.map_map]
      rfl
    rw [eR] at wR
    refine ⟨_, rfl, .inl ⟨w, u.kind, rfl, hT.nm, hT.kd, fun t H3 nt s3 wt => ?_⟩⟩
    refine ⟨t, _, rfl, SqT.of wt, rfl, _, _, rfl, _, _, rfl, rfl, ?_⟩
    refine ⟨_, rfl, R, pairRows u, [], rfl, by rw [List.append_nil]; exact SqL.of (s3 _ _ wR), six_heads u, hT.rowOk, .inl ⟨rfl, fun D kvs H4 nD s4 wD hB => ?_⟩⟩
    have sA := (s2.trans s3).trans s4
    have get : ∀ {h : Str} {xs : List Str}, h ∈ heads6 → (h, xs) ∈ six u → ∃ a, valV kvs (Sum.inr h : Key) = some (.ref a) ∧ H4 a = some (.lst (xs.map V.str)) := fun {h xs} m1 m2 => by
      obtain ⟨a, ha, wa⟩ := hB h m1
      rw [got_six m2] at wa
      exact ⟨a, ha, wa⟩
    obtain ⟨a1, v1, x1⟩ := get (h := Str.ofString "needs") (xs := u.needs) (by simp) (by unfold six; simp)
    obtain ⟨a2, v2, x2⟩ := get (h := Str.ofString "wants") (xs := u.wants) (by simp) (by unfold six; simp)
    obtain ⟨a3, v3, x3⟩ := get (h := Str.ofString "bars") (xs := u.bars) (by simp) (by unfold six; simp)
    obtain ⟨a4, v4, x4⟩ := get (h := Str.ofString "after") (xs := u.after) (by simp) (by unfold six; simp)
    obtain ⟨a5, v5, x5⟩ := get (h := Str.ofString "opens") (xs := u.opens.toList) (by simp) (by unfold six; simp)
    obtain ⟨a6, v6, x6⟩ := get (h := Str.ofString "rule") (xs := fiveWords u.five) (by simp) (by unfold six; simp)
    have nmd : ∀ x ∈ u.named, Nm x ∧ x ≠ w := hT.named
    unfold UF.named at nmd
    simp only [List.mem_append] at nmd
    refine ⟨_, rfl, _, rfl, ?_⟩
    refine ⟨_, rfl, D, .ref a1, rfl, by rw [← v1]; exact DGet.k (k := Sum.inr (Str.ofString "needs")) wD, _, rfl, a1, u.needs, w, rfl, SqL.of x1, hT.lN, hT.nN, fun x hx => nmd x (.inl (.inl (.inl (.inl hx)))), fun t1 H5 nt1 s5 wt1 => ?_⟩
    have wD5 := s5 _ _ wD
    refine ⟨_, rfl, D, .ref a2, rfl, by rw [← v2]; exact DGet.k (k := Sum.inr (Str.ofString "wants")) wD5, _, rfl, a2, u.wants, w, rfl, SqL.of (s5 _ _ x2), hT.lW, hT.nW, fun x hx => nmd x (.inl (.inl (.inl (.inr hx)))), fun t2 H6 nt2 s6 wt2 => ?_⟩
    have s56 := s5.trans s6
    refine ⟨_, rfl, D, .ref a3, rfl, by rw [← v3]; exact DGet.k (k := Sum.inr (Str.ofString "bars")) (s56 _ _ wD), _, rfl, a3, u.bars, w, rfl, SqL.of (s56 _ _ x3), hT.lB, hT.nB, fun x hx => nmd x (.inl (.inl (.inr hx))), fun t3 H7 nt3 s7 wt3 => ?_⟩
    have s57 := s56.trans s7
    refine ⟨_, rfl, D, .ref a4, rfl, by rw [← v4]; exact DGet.k (k := Sum.inr (Str.ofString "after")) (s57 _ _ wD), _, rfl, a4, u.after, w, rfl, SqL.of (s57 _ _ x4), hT.lA, hT.nA, fun x hx => nmd x (.inl (.inr hx)), fun t4 H8 nt4 s8 wt4 => ?_⟩
    have s58 := s57.trans s8
    refine ⟨_, rfl, D, .ref a5, rfl, by rw [← v5]; exact DGet.k (k := Sum.inr (Str.ofString "opens")) (s58 _ _ wD), _, rfl, _, rfl, a5, w, u.kind, u.opens, rfl, SqL.of (s58 _ _ x5), hT.op1, hT.op2, fun g hg => nmd g (.inr (by rw [hg]; exact List.mem_singleton.mpr rfl)), fun H9 s9 => ?_⟩
    have s59 := s58.trans s9
    refine ⟨_, rfl, D, .ref a6, rfl, by rw [← v6]; exact DGet.k (k := Sum.inr (Str.ofString "rule")) (s59 _ _ wD), a6, u.five, rfl, SqL.of (s59 _ _ x6), hT.five, fun rv H10 s10 hr => ?_⟩
    refine ⟨rfl, rfl, fun p dx np nd ne => ?_⟩
    refine ⟨p, dx, _, _, _, _, _, _, _, _, rfl, upd_same, fun H' wp kp => ⟨rfl, ?_⟩⟩
    have s11 : Same H10 H' := Same.made np nd fun b o e n => kp b o e n
    have sT := (sA.trans s59).trans s10
    have s810 := (s9.trans s10).trans s11
    refine q p H' (sT.free np) (sT.trans s11) ⟨dx, t1, t2, t3, t4, rv, wp, ?_, ?_, ?_, ?_, RuleOpt.same hr s11⟩
    · exact tup_same (((s6.trans s7).trans s8).trans s810) (SqT.of wt1)
    · exact tup_same ((s7.trans s8).trans s810) (SqT.of wt2)
    · exact tup_same (s8.trans s810) (SqT.of wt3)
    · exact tup_same s810 (SqT.of wt4)
theorem join_small {y : Str} (hy : ∀ c ∈ TL.tl y, c ≤ 122) : ∀ ws : List Str, (∀ x ∈ ws, ∀ c ∈ TL.tl x, c ≤ 122) → ∀ c ∈ TL.tl (Str.join y ws), c ≤ 122
  | [], _ => by
    show ∀ c ∈ TL.tl Str.empty, _
    rw [show TL.tl Str.empty = [] by decide +kernel]
    exact fun c h => nomatch h
  | [x], h => h x (List.mem_singleton.mpr rfl)
  | x :: z :: r, h => by
    show ∀ c ∈ TL.tl (x ++ y ++ Str.join y (z :: r)), _
    rw [TL.tl_append, TL.tl_append]
    intro c m
    rcases List.mem_append.mp m with m | m
    · rcases List.mem_append.mp m with m | m
      · exact h x (List.mem_cons_self ..) c m
      · exact hy c m
    · exact join_small hy (z :: r) (fun v hv => h v (List.mem_cons_of_mem _ hv)) c m
theorem text_ok {w : Str} {u : UF} (h : Tx w u) : PyData.strOk (unitText w u) = true := by
  have all : ∀ c ∈ TL.tl (unitText w u), c ≤ 122 := by
    unfold unitText
    rw [TL.join_eq]
    refine join_small (by decide +kernel) _ fun x hx => ?_
    obtain ⟨ws, hw, rfl⟩ := List.mem_map.mp hx
    unfold rowS
    rw [TL.join_eq]
    exact join_small (by decide +kernel) ws fun x hx c hc => (h.free hw hx hc).2
  unfold PyData.strOk
  rw [Array.all_eq_true']
  intro c hc
  have := all c (Array.mem_toList_iff.mpr hc)
  exact decide_eq_true (by omega)

-- SPLIT
/-! ### the shelf -/
/-- no instance with fields -/
def NotIns (H : Hp) (q : Addr) : Prop := ∀ C dx f fs, H q ≠ some (.ins C dx (f :: fs))
theorem NotIns.lst {H : Hp} {q : Addr} {xs : List V} (h : H q = some (.lst xs)) : NotIns H q := fun C dx f fs e => by rw [h] at e; cases e
theorem NotIns.dK {H : Hp} {q : Addr} {xs : List (Key × V)} (h : H q = some (.dK xs)) : NotIns H q := fun C dx f fs e => by rw [h] at e; cases e
theorem NotIns.new {H : Hp} {q C dx : Addr} (h : H q = some (.ins C dx [])) : NotIns H q := fun C' dx' f fs e => by rw [h] at e; cases e
theorem RuleOpt.keepN {H H' : Hp} {v : V} {o : Option (Int × Int × Int × Int × Int)} {q : Addr} (h : RuleOpt K H v o) (k : Kp q H H') (n : NotIns H q) : RuleOpt K H' v o := by
  cases o with
  | none => exact h
  | some o =>
    obtain ⟨f, m, t, b, s'⟩ := o
    obtain ⟨p, e, dx, hp⟩ := h
    exact ⟨p, e, dx, k _ _ hp fun z => n _ _ _ _ (z ▸ hp)⟩
theorem UnitAt.keepN {H H' : Hp} {p q : Addr} {w : Str} {u : UF} (h : UnitAt K H p w u) (k : Kp q H H') (nt : NotTp H q) (ni : NotIns H q) : UnitAt K H' p w u := by
  obtain ⟨dx, n, x, b, a, r, h0, h1, h2, h3, h4, h5⟩ := h
  exact ⟨dx, n, x, b, a, r, k _ _ h0 (fun e => ni _ _ _ _ (e ▸ h0)), k.tup nt h1, k.tup nt h2, k.tup nt h3, k.tup nt h4, h5.keepN k ni⟩
/-- a list of units -/
inductive ULs (K : PySem.W.Frag) (H : Hp) : List V → List (Str × UF) → Prop
  | nil : ULs K H [] []
  | cons {a : Addr} {w : Str} {u : UF} {xs : List V} {us : List (Str × UF)} (e : UnitAt K H a w u) (h : ULs K H xs us) : ULs K H (.ref a :: xs) ((w, u) :: us)
theorem ULs.same {H H' : Hp} {xs : List V} {us : List (Str × UF)} (h : ULs K H xs us) (s : Same H H') : ULs K H' xs us := by
  induction h with
  | nil => exact .nil
  | cons e _ ih => exact .cons (e.same s) ih
theorem ULs.keepN {H H' : Hp} {q : Addr} {xs : List V} {us : List (Str × UF)} (h : ULs K H xs us) (k : Kp q H H') (nt : NotTp H q) (ni : NotIns H q) : ULs K H' xs us := by
  induction h with
  | nil => exact .nil
  | cons e _ ih => exact .cons (e.keepN k nt ni) ih
theorem ULs.len {H : Hp} {xs : List V} {us : List (Str × UF)} (h : ULs K H xs us) : xs.length = us.length := by
  induction h with
  | nil => rfl
  | cons _ _ ih => rw [List.length_cons, List.length_cons, ih]
theorem ULs.get {H : Hp} {xs : List V} {us : List (Str × UF)} (h : ULs K H xs us) {i : Nat} {x : V} (e : xs[i]? = some x) : ∃ a w u, x = .ref a ∧ us[i]? = some (w, u) ∧ UnitAt K H a w u := by
  induction h generalizing i with
  | nil => simp at e
  | @cons a w u _ _ r _ ih =>
    cases i with
    | zero =>
      cases e
      exact ⟨a, w, u, rfl, rfl, r⟩
    | succ i => exact ih e
theorem ULs.app {H : Hp} {xs ys : List V} {us vs : List (Str × UF)} (h : ULs K H xs us) (g : ULs K H ys vs) : ULs K H (xs ++ ys) (us ++ vs) := by
  induction h with
  | nil => exact g
  | cons e _ ih => exact .cons e ih
abbrev UTab (K : PySem.W.Frag) (H : Hp) : List (Key × V) → List (Str × UF) → Prop := Tab fun v w u => ∃ a, v = .ref a ∧ UnitAt K H a w u
def ShelfAt (K : PySem.W.Frag) (H : Hp) (p : Addr) (us : List (Str × UF)) : Prop := ∃ (dx d : Addr) (kvs : List (Key × V)), H p = some (.ins (He.ga K "Shelf") dx [("by_name", .ref d)]) ∧ H d = some (.dK kvs) ∧ UTab K H kvs us
theorem ShelfAt.same {H H' : Hp} {p : Addr} {us : List (Str × UF)} (h : ShelfAt K H p us) (s : Same H H') : ShelfAt K H' p us := by
  obtain ⟨dx, d, kvs, h1, h2, h3⟩ := h
  exact ⟨dx, d, kvs, s _ _ h1, s _ _ h2, h3.imp fun v w u ⟨a, e, r⟩ => ⟨a, e, r.same s⟩⟩
theorem ShelfAt.keepL {H H' : Hp} {p q : Addr} {us : List (Str × UF)} {xs : List V} (h : ShelfAt K H p us) (k : Kp q H H') (hq : H q = some (.lst xs)) : ShelfAt K H' p us := by
  obtain ⟨dx, d, kvs, h1, h2, h3⟩ := h
  refine ⟨dx, d, kvs, k _ _ h1 (fun e => by rw [e, hq] at h1; cases h1), k _ _ h2 (fun e => by rw [e, hq] at h2; cases h2), h3.imp fun v w u ⟨a, e, r⟩ => ⟨a, e, r.keepN k (.lst hq) (.lst hq)⟩⟩
theorem ShelfAt.keepB {H H' : Hp} {p q : Addr} {us : List (Str × UF)} {n : Nat} (h : ShelfAt K H p us) (k : Kp q H H') (B : Bag n H q) : ShelfAt K H' p us := by
  obtain ⟨_, _, _, hq, _⟩ := B.ex
  exact h.keepL k hq
/-- names unlike, at most sixteen -/
structure Nms (us : List (Str × UF)) : Prop where
  nd : (us.map (·.1)).Nodup
  few : us.length ≤ 16
  nm : ∀ x ∈ us.map (·.1), Nm x
theorem Nms.len {us : List (Str × UF)} (n : Nms us) : (us.map (·.1)).length ≤ 16 := by rw [List.length_map]; exact n.few
def sp_Shelf_init (K : PySem.W.Frag) : Sp := fun vs H Q _ => ∃ (p dx l : Addr) (xs : List V) (us : List (Str × UF)), vs = [.ref p, .ref l] ∧ H p = some (.ins (He.ga K "Shelf") dx []) ∧ (SqL K H l xs ∨ SqT K H l xs) ∧ ULs K H xs us ∧ Nms us ∧
  ∀ H', ShelfAt K H' p us → Kp p H H' → Q .non H'
theorem ok_Shelf_init (T : Txt K mg) : FnOk P w K mg base CX0 1 (He.fAd K ("Shelf", some "__init__")) T.d_Shelf_init ["self", "units"] (sp_Shelf_init K) := by
  refine T.F_Shelf_init.ok sc_Shelf_init (fun vs H Q E h => ?_) (fun cdv A outer s H vs Q E hr h => ?_)
  · obtain ⟨p, dx, l, xs, us, rfl, _⟩ := h
    rfl
  · obtain ⟨p, dx, l, xs, us, rfl, hp, hl, hU, hN, q⟩ := h
    refine ⟨_, PSs.nox (pss_cons (ps_set (i := 2) sc_Shelf_init.nd rfl (Or.inl rfl) pe_dnewK)
      (pss_cons (ps_for PassesOwn.never rfl (UP.pi_or (pi_list (pv 1)) (pi_tup (pv 1))) (pg_name (i := 3) sc_Shelf_init.nd rfl (Or.inl rfl))
      (pss_cons (ps_if (PW.pt (pw_or (pt_cmp (pc_din (hu_of hr) (pe_fld (pv 3) rfl) (pv 2))) (pw_or1 (pt_cmpR op_eq (pe_callB (id := "len")  call_lenD (by rfl) T.n_len (by decide +kernel) (pa_cons (pv 2) pa_nil)) (pe_glob (v := .int 16) (by rfl) T.c_MOST.choose_spec ⟨_, rfl⟩) (nomark _)))))
      (pss_one ps_never)
      pss_nil)
      (pss_one (ps_dput (hu_of hr) (pv 2) (pe_fld (pv 3) rfl) (pv 3) rfl))))
      (pss_one (ps_fld (pv 0) (pv 2) rfl)))), ?_⟩
    refine fun d nd => ?_
    generalize hE1 : upd H d _ = H1
    have wd := new_at hE1
    have s1 := new_same hE1 nd
    have npd : p ≠ d := ne_some hp nd
    rcases hl with hl | hl
    · refine .inl ⟨_, rfl, l, rfl, ⟨_, SqL.ext hl s1⟩, for_list (xs := xs) (fun i σ H' => Same H H' ∧ (∃ kvs, H' d = some (.dK kvs) ∧ UTab K H' kvs (us.take i)) ∧ ∃ y : Option V, σ = [some (.ref p), some (.ref l), some (.ref d), y])
        ⟨s1, ⟨[], wd, .nil⟩, none, rfl⟩ (fun i σ H' _ h => SqL.ext hl h.1) ?_ ?_⟩
      · rintro i x σ H2 hi ⟨s2, ⟨kvs, wd2, ht⟩, y, rfl⟩
        obtain ⟨a, w, u, rfl, hu, hA⟩ := hU.get hi
        obtain ⟨dxu, n1, n2, n3, n4, r, ha, _⟩ := id (hA.same s2)
        have hlt : i < us.length := by
          rw [List.getElem?_eq_some_iff] at hu
          exact hu.1
        have hfree : w ∉ (us.take i).map (·.1) := fun hm => by
          obtain ⟨j, hj, e⟩ := List.getElem_of_mem hm
          rw [List.length_map, List.length_take] at hj
          have hn := hN.nd
          have e1 : (us.map (·.1))[i]? = some w := by rw [List.getElem?_map, hu]; rfl
          have e2 : (us.map (·.1))[j]? = some w := by
            rw [List.getElem?_map, List.getElem?_eq_getElem (by omega)]
            rw [List.getElem_map, List.getElem_take] at e
            rw [← e]
            rfl
          have := (List.getElem?_inj (by rw [List.length_map]; omega) hn).mp (e2.trans e1.symm)
          omega
        have few := hN.few
        have hkl : kvs.length = i := by
          rw [ht.len, List.length_take]
          omega
        have hnone := ht.free hfree
        -- if unit.name in by_name or len(by_name) == MOST
        refine ⟨_, rfl, a, _, dxu, _, _, rfl, ha, T.cl_Unit, T.na_Unit_name, rfl, _, rfl, d, _, rfl, DGet.k (k := Sum.inr w) wd2, ?_⟩
        rw [hnone]
        refine ⟨_, rfl, iteF ?_⟩
        refine ⟨_, rfl, d, kvs, rfl, wd2, rfl, _, rfl, ?_⟩
        rw [decide_eq_false (show ¬ V.int (kvs.length : Int) = V.int 16 from fun z => by injection z with z; omega)]
        refine iteF ?_
        -- by_name[unit.name] = unit
        refine ⟨_, rfl, _, rfl, _, rfl, a, _, dxu, _, _, rfl, ha, T.cl_Unit, T.na_Unit_name, rfl, d, _, rfl, DPut.k (k := Sum.inr w) wd2 (small1000 (by omega)), ?_⟩
        rw [putK_new _ hnone]
        generalize hE3 : upd H2 d _ = H3
        have wd3 := new_at hE3
        have m3 := mut_keep hE3
        refine ⟨Same.own s2 m3 nd, ⟨_, wd3, ?_⟩, _, rfl⟩
        rw [take_snoc hu]
        exact (ht.imp fun v w u ⟨a, e, r⟩ => ⟨a, e, r.keepN m3 (.dK wd2) (.dK wd2)⟩).app (.cons ⟨a, rfl, (hA.same s2).keepN m3 (.dK wd2) (.dK wd2)⟩ .nil)
      · rintro σ H2 ⟨s2, ⟨kvs, wd2, ht⟩, y, rfl⟩
        rw [hU.len, List.take_length] at ht
        have hp2 := s2 _ _ hp
        refine ⟨_, rfl, _, rfl, p, _, dx, [], rfl, hp2, T.cl_Shelf, T.na_Shelf_by_name, (by show 0 < 1000; decide), ?_⟩
        generalize hE3 : upd H2 p _ = H3
        have m3 := mut_keep hE3
        exact q H3 ⟨dx, d, kvs, new_at hE3, m3 _ _ wd2 npd.symm, ht.imp fun v w u ⟨a, e, r⟩ => ⟨a, e, r.keepN m3 (.ins hp2) (.new hp2)⟩⟩ ((Kp.of s2).trans m3)
    · refine .inr ⟨_, rfl, l, rfl, ⟨_, tup_same s1 hl⟩, for_tup (xs := xs) (fun i σ H' => Same H H' ∧ (∃ kvs, H' d = some (.dK kvs) ∧ UTab K H' kvs (us.take i)) ∧ ∃ y : Option V, σ = [some (.ref p), some (.ref l), some (.ref d), y])
        ⟨s1, ⟨[], wd, .nil⟩, none, rfl⟩ (fun i σ H' _ h => tup_same h.1 hl) ?_ ?_⟩
      · rintro i x σ H2 hi ⟨s2, ⟨kvs, wd2, ht⟩, y, rfl⟩
        obtain ⟨a, w, u, rfl, hu, hA⟩ := hU.get hi
        obtain ⟨dxu, n1, n2, n3, n4, r, ha, _⟩ := id (hA.same s2)
        have hlt : i < us.length := by
          rw [List.getElem?_eq_some_iff] at hu
          exact hu.1
        have hfree : w ∉ (us.take i).map (·.1) := fun hm => by
          obtain ⟨j, hj, e⟩ := List.getElem_of_mem hm
          rw [List.length_map, List.length_take] at hj
          have hn := hN.nd
          have e1 : (us.map (·.1))[i]? = some w := by rw [List.getElem?_map, hu]; rfl
          have e2 : (us.map (·.1))[j]? = some w := by
            rw [List.getElem?_map, List.getElem?_eq_getElem (by omega)]
            rw [List.getElem_map, List.getElem_take] at e
            rw [← e]
            rfl
          have := (List.getElem?_inj (by rw [List.length_map]; omega) hn).mp (e2.trans e1.symm)
          omega
        have few := hN.few
        have hkl : kvs.length = i := by
          rw [ht.len, List.length_take]
          omega
        have hnone := ht.free hfree
        -- if unit.name in by_name or len(by_name) == MOST
        refine ⟨_, rfl, a, _, dxu, _, _, rfl, ha, T.cl_Unit, T.na_Unit_name, rfl, _, rfl, d, _, rfl, DGet.k (k := Sum.inr w) wd2, ?_⟩
        rw [hnone]
        refine ⟨_, rfl, iteF ?_⟩
        refine ⟨_, rfl, d, kvs, rfl, wd2, rfl, _, rfl, ?_⟩
        rw [decide_eq_false (show ¬ V.int (kvs.length : Int) = V.int 16 from fun z => by injection z with z; omega)]
        refine iteF ?_
        -- by_name[unit.name] = unit
        refine ⟨_, rfl, _, rfl, _, rfl, a, _, dxu, _, _, rfl, ha, T.cl_Unit, T.na_Unit_name, rfl, d, _, rfl, DPut.k (k := Sum.inr w) wd2 (small1000 (by omega)), ?_⟩
        rw [putK_new _ hnone]
        generalize hE3 : upd H2 d _ = H3
        have wd3 := new_at hE3
        have m3 := mut_keep hE3
        refine ⟨Same.own s2 m3 nd, ⟨_, wd3, ?_⟩, _, rfl⟩
        rw [take_snoc hu]
        exact (ht.imp fun v w u ⟨a, e, r⟩ => ⟨a, e, r.keepN m3 (.dK wd2) (.dK wd2)⟩).app (.cons ⟨a, rfl, (hA.same s2).keepN m3 (.dK wd2) (.dK wd2)⟩ .nil)
      · rintro σ H2 ⟨s2, ⟨kvs, wd2, ht⟩, y, rfl⟩
        rw [hU.len, List.take_length] at ht
        have hp2 := s2 _ _ hp
        refine ⟨_, rfl, _, rfl, p, _, dx, [], rfl, hp2, T.cl_Shelf, T.na_Shelf_by_name, (by show 0 < 1000; decide), ?_⟩
        generalize hE3 : upd H2 p _ = H3
        have m3 := mut_keep hE3
        exact q H3 ⟨dx, d, kvs, new_at hE3, m3 _ _ wd2 npd.symm, ht.imp fun v w u ⟨a, e, r⟩ => ⟨a, e, r.keepN m3 (.ins hp2) (.new hp2)⟩⟩ ((Kp.of s2).trans m3)
def sp_Shelf_names (K : PySem.W.Frag) : Sp := fun vs H Q _ => ∃ (p : Addr) (us : List (Str × UF)), vs = [.ref p] ∧ ShelfAt K H p us ∧ Nms us ∧
  ∀ l H', H l = none → Same H H' → H' l = some (.lst ((srt (us.map (·.1))).map V.str)) → Q (.ref l) H'
theorem ok_Shelf_names (T : Txt K mg) : FnOk P w K mg base CX0 1 (He.fAd K ("Shelf", some "names")) T.d_Shelf_names ["self"] (sp_Shelf_names K) := by
  refine T.F_Shelf_names.ok sc_Shelf_names (fun vs H Q E h => ?_) (fun cdv A outer s H vs Q E hr h => ?_)
  · obtain ⟨p, us, rfl, _⟩ := h
    rfl
  · obtain ⟨p, us, rfl, hS, hN, q⟩ := h
    refine ⟨_, PSs.nox (pss_one (ps_ret (pe_callB (id := "sorted")  (call_sortedD rfl) (by rfl) T.n_sorted (by decide +kernel) (pa_cons (pe_fld (pv 0) rfl) pa_nil)))), ?_⟩
    obtain ⟨dx, d, kvs, hp, hd, ht⟩ := id hS
    have few := hN.len
    refine ⟨_, rfl, p, _, dx, _, _, rfl, hp, T.cl_Shelf, T.na_Shelf_by_name, rfl, d, kvs, us.map (·.1), rfl, .inl hd, ht.keys, by omega, fun ys l hy hs nl => ?_⟩
    obtain rfl := srt_of hy hs
    exact q l _ nl (same_upd nl) upd_same
def sp_Shelf_has (K : PySem.W.Frag) : Sp := fun vs H Q _ => ∃ (p : Addr) (w : Str) (us : List (Str × UF)), vs = [.ref p, .str w] ∧ ShelfAt K H p us ∧ Nms us ∧ Q (.bl (decide (w ∈ us.map (·.1)))) H
theorem Nms.val {R : V → Str → UF → Prop} {kvs : List (Key × V)} {us : List (Str × UF)} (n : Nms us) (h : Tab R kvs us) (w : Str) : (valV kvs (Sum.inr w : Key)).isSome = decide (w ∈ us.map (·.1)) := by
  by_cases c : w ∈ us.map (·.1)
  · obtain ⟨p, hp, rfl⟩ := List.mem_map.mp c
    obtain ⟨v, hv, _⟩ := h.get n.nd p hp
    rw [hv, decide_eq_true c]
    rfl
  · rw [h.free c, decide_eq_false c]
    rfl
theorem ok_Shelf_has (T : Txt K mg) : FnOk P w K mg base CX0 1 (He.fAd K ("Shelf", some "has")) T.d_Shelf_has ["self", "name"] (sp_Shelf_has K) := by
  refine T.F_Shelf_has.ok sc_Shelf_has (fun vs H Q E h => ?_) (fun cdv A outer s H vs Q E hr h => ?_)
  · obtain ⟨p, w, us, rfl, _⟩ := h
    rfl
  · obtain ⟨p, w, us, rfl, hS, hN, q⟩ := h
    refine ⟨_, PSs.nox (pss_one (ps_ret (pe_mid (pe_and (pe_callB (id := "isinstance")  call_isi (by rfl) T.n_isinstance (by decide +kernel) (pa_cons (pv 1) (pa_cons (pe_bltn (v := .ty "str") (u := .type "str") (by rfl) T.n_str (by decide +kernel) rfl) pa_nil))) (pe_one (pe_cmp (pc_din (hu_of hr) (pv 1) (pe_fld (pv 0) rfl)))))))), ?_⟩
    obtain ⟨dx, d, kvs, hp, hd, ht⟩ := id hS
    refine ⟨fun v H' => H' = H ∧ v = .bl (decide (w ∈ us.map (·.1))), ?_, ?_⟩
    · refine ⟨_, rfl, _, _, _, _, true, rfl, .ty "str", .base (.str _), kit_ty (by decide +kernel), true, rfl, iteT ?_⟩
      refine ⟨_, rfl, _, rfl, p, _, dx, _, _, rfl, hp, T.cl_Shelf, T.na_Shelf_by_name, rfl, d, _, rfl, DGet.k (k := Sum.inr w) hd, rfl, ?_⟩
      rw [hN.val ht w]
    · rintro v H' ⟨rfl, rfl⟩
      exact q
def sp_Shelf_unit (K : PySem.W.Frag) : Sp := fun vs H Q _ => ∃ (p : Addr) (w : Str) (us : List (Str × UF)), vs = [.ref p, .str w] ∧ ShelfAt K H p us ∧ Nms us ∧ w ∈ us.map (·.1) ∧
  ∀ a u, (w, u) ∈ us → UnitAt K H a w u → Q (.ref a) H
theorem ok_Shelf_unit (T : Txt K mg) : FnOk P w K mg base CX0 2 (He.fAd K ("Shelf", some "unit")) T.d_Shelf_unit ["self", "name"] (sp_Shelf_unit K) := by
  refine T.F_Shelf_unit.ok sc_Shelf_unit (fun vs H Q E h => ?_) (fun cdv A outer s H vs Q E hr h => ?_)
  · obtain ⟨p, w, us, rfl, _⟩ := h
    rfl
  · obtain ⟨p, w, us, rfl, hS, hN, hw, q⟩ := h
    refine ⟨_, PSs.nox (pss_cons (ps_if (pt_not (pt_val (pe_meth (pv 0) T.cl_Shelf T.me_Shelf_has (ok_Shelf_has T) (hr.mono (by decide)) T.b_Shelf_has .nil pass0 (pa_cons (pv 1) pa_nil))))
      (pss_one ps_never)
      pss_nil)
      (pss_one (ps_ret (pe_dget (hu_of hr) (pe_fld (pv 0) rfl) (pv 1) (fun _ _ => rfl))))), ?_⟩
    obtain ⟨dx, d, kvs, hp, hd, ht⟩ := id hS
    obtain ⟨u, hu⟩ : ∃ u, (w, u) ∈ us := by
      obtain ⟨r, hr, rfl⟩ := List.mem_map.mp hw
      exact ⟨r.2, hr⟩
    obtain ⟨v, hv, a, rfl, hA⟩ := ht.get hN.nd (w, u) hu
    refine ⟨_, rfl, p, dx, _, rfl, hp, rfl, _, rfl, p, w, us, rfl, hS, hN, ?_⟩
    rw [decide_eq_true hw]
    refine ⟨true, rfl, iteF ?_⟩
    refine ⟨_, rfl, p, _, dx, _, _, rfl, hp, T.cl_Shelf, T.na_Shelf_by_name, rfl, _, rfl, d, .ref a, rfl, by rw [← hv]; exact DGet.k (k := Sum.inr w) hd, ?_⟩
    exact q a u hu hA
def sp_Shelf_waited (K : PySem.W.Frag) : Sp := fun vs H Q _ => ∃ (p : Addr) (w : Str) (us : List (Str × UF)), vs = [.ref p, .str w] ∧ ShelfAt K H p us ∧ Nms us ∧ w ∈ us.map (·.1) ∧
  ∀ l H', H l = none → Same H H' → H' l = some (.lst ((wt us w).map V.str)) → Q (.ref l) H'
theorem ok_Shelf_waited (T : Txt K mg) : FnOk P w K mg base CX0 3 (He.fAd K ("Shelf", some "waited")) T.d_Shelf_waited ["self", "name"] (sp_Shelf_waited K) := by
  refine T.F_Shelf_waited.ok sc_Shelf_waited (fun vs H Q E h => ?_) (fun cdv A outer s H vs Q E hr h => ?_)
  · obtain ⟨p, w, us, rfl, _⟩ := h
    rfl
  · obtain ⟨p, w, us, rfl, hS, hN, hw, q⟩ := h
    refine ⟨_, PSs.nox (pss_cons (ps_set (i := 2) sc_Shelf_waited.nd rfl (Or.inr rfl) (pe_meth (pv 0) T.cl_Shelf T.me_Shelf_unit (ok_Shelf_unit T) (hr.mono (by decide)) T.b_Shelf_unit .nil pass0 (pa_cons (pv 1) pa_nil)))
      (pss_one (ps_ret (pe_lc (own := [("other", 3)]) (by rfl) sc_Shelf_waited.nd (pi_list (pe_meth0 (pv 0) T.cl_Shelf T.me_Shelf_names (ok_Shelf_names T) (hr.mono (by decide)) T.b_Shelf_names .nil pass0)) (blkOk_by (own := [("other", 3)]) (N := N_Shelf_waited) (sc := defScope s_Shelf_waited) (by decide +kernel)) (fun _ _ _ _ _ => (pg_name (i := 3) sc_Shelf_waited.nd rfl (Or.inl rfl))) (fun _ _ _ _ _ => by exact (pts_one (PW.pt (pw_or (pt_cmpR (r := rIn K false) op_in_seq (pv 3) (UP.pe_fldK (K := K) (by rfl) (pv 2) (by rfl)) (by rfl)) (pw_or (pt_cmpR (r := rIn K false) op_in_seq (pv 3) (UP.pe_fldK (K := K) (by rfl) (pv 2) (by rfl)) (by rfl)) (pw_or1 (pt_cmpR op_eq (UP.pe_fldK (K := K) (by rfl) (pe_dget (hu_of hr) (UP.pe_fldK (K := K) (by rfl) (pv 0) (by rfl)) (pv 3) (fun _ _ => rfl)) (by rfl)) (pv 1) (nomark _)))))))) (fun _ _ _ _ _ => (pv 3)))))), ?_⟩
    obtain ⟨dx, d, kvs, hp, hd, ht⟩ := id hS
    refine ⟨_, rfl, p, dx, _, rfl, hp, rfl, _, rfl, p, w, us, rfl, hS, hN, hw, fun a u hu hA => ?_⟩
    have hfu : fu us w = some u := fu_some hN.nd hu
    obtain ⟨dxu, n1, n2, n3, n4, r, ha, hn1, hn2, hn3, hn4, _⟩ := id hA
    refine ⟨_, rfl, p, dx, _, rfl, hp, rfl, p, us, rfl, hS, hN, fun l H1 nl s1 wl => ?_⟩
    refine ⟨l, rfl, ⟨_, SqL.of wl⟩, fun D nD => ?_⟩
    refine lc_list (xs := (srt (us.map (·.1))).map V.str) (fun i H' => Same H1 H' ∧ H' D = some (.lst ((((srt (us.map (·.1))).take i).filter (waitsB us w)).map V.str))) ⟨same_upd nD, upd_same⟩ (fun i H' _ h => SqL.of (h.1 _ _ wl)) ?_ ?_
    · rintro i x H2 hi ⟨s2, w2⟩
      obtain ⟨o, ho, rfl⟩ := map_str_get hi
      have hom : o ∈ us.map (·.1) := srt_mem.mp (List.mem_of_getElem? ho)
      obtain ⟨v, hfo, hv⟩ := fu_of hom hN.nd
      have wb : waitsB us w o = (decide (o ∈ u.needs) || (decide (o ∈ u.after) || decide (v.opens = some w))) := by
        unfold waitsB
        rw [hfu, hfo]
      have s12 := s1.trans s2
      have few := hN.len
      have hlen : ((((srt (us.map (·.1))).take i).filter (waitsB us w)).map V.str).length < sizeLine := by
        rw [List.length_map]
        refine Nat.lt_of_le_of_lt (List.length_filter_le _ _) (Nat.lt_of_le_of_lt (List.length_take_le' ..) (small1000 ?_))
        rw [srt_len]
        omega
      have yes : waitsB us w o = true → Same H1 (upd H2 D (.lst (((((srt (us.map (·.1))).take i).filter (waitsB us w)).map V.str) ++ [.str o]))) ∧ (upd H2 D (.lst (((((srt (us.map (·.1))).take i).filter (waitsB us w)).map V.str) ++ [.str o]))) D = some (.lst ((((srt (us.map (·.1))).take (i + 1)).filter (waitsB us w)).map V.str)) := fun c => by
        refine ⟨Same.own (q := D) s2 (mut_keep rfl) nD, ?_⟩
        rw [upd_same, take_filter_snoc _ ho, if_pos c, List.map_append]
        rfl
      have no : waitsB us w o = false → Same H1 H2 ∧ H2 D = some (.lst ((((srt (us.map (·.1))).take (i + 1)).filter (waitsB us w)).map V.str)) := fun c => by
        refine ⟨s2, ?_⟩
        rw [take_filter_snoc _ ho, if_neg (by rw [c]; exact Bool.false_ne_true), List.append_nil]
        exact w2
      refine ⟨rfl, _, rfl, _, rfl, a, _, dxu, _, _, rfl, s12 _ _ ha, T.cl_Unit, T.na_Unit_needs, rfl, n1, _, rfl, .inr (tup_same s12 hn1), rfl, strs_flat _, _, rfl, ?_⟩
      rw [inV_str]
      by_cases c1 : o ∈ u.needs
      · rw [decide_eq_true c1] at wb ⊢
        exact iteT (iteT ⟨_, rfl, _, w2, hlen, yes (by rw [wb]; rfl)⟩)
      rw [decide_eq_false c1] at wb ⊢
      refine iteF ⟨_, rfl, _, rfl, a, _, dxu, _, _, rfl, s12 _ _ ha, T.cl_Unit, T.na_Unit_after, rfl, n4, _, rfl, .inr (tup_same s12 hn4), rfl, strs_flat _, _, rfl, ?_⟩
      rw [inV_str]
      by_cases c2 : o ∈ u.after
      · rw [decide_eq_true c2] at wb ⊢
        exact iteT (iteT ⟨_, rfl, _, w2, hlen, yes (by rw [wb]; rfl)⟩)
      rw [decide_eq_false c2] at wb ⊢
      obtain ⟨ov, hov, b, rfl, hB⟩ := ht.get hN.nd (o, v) hv
      obtain ⟨dxv, m1, m2, m3, m4, r2, hb, _⟩ := id hB
      refine iteF ⟨_, rfl, p, _, dx, _, _, rfl, s12 _ _ hp, T.cl_Shelf, T.na_Shelf_by_name, rfl, _, rfl, d, .ref b, rfl, by rw [← hov]; exact DGet.k (k := Sum.inr o) (s12 _ _ hd), b, _, dxv, _, _, rfl, s12 _ _ hb, T.cl_Unit, T.na_Unit_opens, rfl, _, rfl, scal_optV v.opens (some w), _, rfl, ?_⟩
      rw [show decide (optV v.opens = V.str w) = decide (v.opens = some w) from dec_optV (y := some w)]
      by_cases c3 : v.opens = some w
      · rw [decide_eq_true c3] at wb ⊢
        exact iteT ⟨_, rfl, _, w2, hlen, yes (by rw [wb]; rfl)⟩
      · rw [decide_eq_false c3] at wb ⊢
        exact iteF (no (by rw [wb]; rfl))
    · rintro H2 ⟨s2, w2⟩
      rw [List.length_map, List.take_length] at w2
      exact q D H2 (s1.free nD) (s1.trans s2) w2

-- SPLIT
/-! ### texts of shelves -/
abbrev nnS : Str := Str.ofString "\n\n"
def u0 : UF := ⟨Str.empty, [], [], [], [], none, none⟩
def gu (us : List (Str × UF)) (w : Str) : UF := (fu us w).getD u0
/-- the units in the order of their names -/
def ordU (us : List (Str × UF)) : List (Str × UF) := (srt (us.map (·.1))).map fun w => (w, gu us w)
abbrev pT (p : Str × UF) : Str := unitText p.1 p.2
def shelfText (us : List (Str × UF)) : Str := Txt.join nnS ((ordU us).map pT)
theorem gu_of {us : List (Str × UF)} (n : (us.map (·.1)).Nodup) {p : Str × UF} (h : p ∈ us) : gu us p.1 = p.2 := by
  unfold gu
  rw [fu_some n h]
  rfl
theorem ordU_names (us : List (Str × UF)) : (ordU us).map (·.1) = srt (us.map (·.1)) := by
  unfold ordU
  rw [List.map_map]
  exact List.map_id' _
theorem ordU_mem {us : List (Str × UF)} (n : (us.map (·.1)).Nodup) {p : Str × UF} (h : p ∈ ordU us) : p ∈ us := by
  obtain ⟨w, hw, rfl⟩ := List.mem_map.mp h
  obtain ⟨u, e, m⟩ := fu_of (srt_mem.mp hw) n
  have : gu us w = u := gu_of n m
  rw [this]
  exact m
theorem ordU_len (us : List (Str × UF)) : (ordU us).length = us.length := by
  unfold ordU
  rw [List.length_map, srt_len, List.length_map]
theorem ordU_fix {gs : List (Str × UF)} (n : (gs.map (·.1)).Nodup) (s : srt (gs.map (·.1)) = gs.map (·.1)) : ordU gs = gs := by
  unfold ordU
  rw [s, List.map_map]
  refine (List.map_congr_left fun p hp => ?_).trans (List.map_id gs)
  show (p.1, gu gs p.1) = p
  rw [gu_of n hp]
/-! signs -/
/-- no two line ends stand together, and none stands last -/
def Cl : List Nat → Prop
  | [] => True
  | [a] => a ≠ 10
  | a :: b :: r => ¬ (a = 10 ∧ b = 10) ∧ Cl (b :: r)
theorem pre_two {l : List Nat} (h : ∀ r, l ≠ 10 :: 10 :: r) : TL.pre [10, 10] l = false := by
  unfold TL.pre
  refine beq_eq_false_iff_ne.mpr fun z => ?_
  have e : l.take 2 ++ l.drop 2 = l := List.take_append_drop 2 l
  rw [show l.take 2 = [10, 10] from z] at e
  exact h _ e.symm
theorem cl_pre : ∀ {p : List Nat}, Cl p → ∀ (t : List Nat) (i : Nat), i < p.length → TL.pre [10, 10] ((p ++ t).drop i) = false
  | [], _, _, _, h => absurd h (Nat.not_lt_zero _)
  | [a], c, t, i, h => by
    obtain rfl : i = 0 := by
      rw [List.length_cons, List.length_nil] at h
      omega
    exact pre_two fun r e => c (by injection e)
  | a :: b :: r, c, t, 0, _ => pre_two fun r' e => c.1 (by
      injection e with e1 e2
      injection e2 with e2 _
      exact ⟨e1, e2⟩)
  | a :: b :: r, c, t, i + 1, h => cl_pre (p := b :: r) c.2 t i (Nat.lt_of_succ_lt_succ h)
theorem nn_tl : TL.tl nnS = [10, 10] := by decide +kernel
theorem nn_split (ps : List (List Nat)) : ∀ q, Cl q → (∀ p ∈ ps, Cl p) → TL.spl [10, 10] 0 [] (TL.joinL [10, 10] (q :: ps)) = q :: ps := by
  induction ps with
  | nil =>
    intro q cq _
    refine (TL.spl_last (acc := []) fun i hi => ?_).trans (by rw [List.nil_append]; rfl)
    have := cl_pre cq [] i hi
    rwa [List.append_nil] at this
  | cons p ps ih =>
    intro q cq h
    have one := TL.spl_part (S := [10, 10]) (p := q) (rest := TL.joinL [10, 10] (p :: ps)) (acc := []) (by simp) fun i hi => cl_pre cq _ i hi
    exact one.trans (by rw [ih p (h p List.mem_cons_self) fun z hz => h z (List.mem_cons_of_mem _ hz), List.nil_append])
theorem nn_cut {ps : List Str} (n : ps ≠ []) (h : ∀ p ∈ ps, Cl (TL.tl p)) : Txt.split (Txt.join nnS ps) nnS = ps := by
  obtain ⟨q, ps, rfl⟩ := List.exists_cons_of_ne_nil n
  refine TL.map_tl_inj ((TL.split_spl _ nnS (by rw [nn_tl]; simp) (TL.kind_ok (by decide +kernel))).trans ?_)
  rw [TL.join_eq, TL.tl_join, nn_tl, List.map_cons]
  refine nn_split _ _ (h q List.mem_cons_self) fun p hp => ?_
  obtain ⟨z, hz, rfl⟩ := List.mem_map.mp hp
  exact h z (List.mem_cons_of_mem _ hz)
/-- a text whose only line end that could be one of two is the last sign -/
theorem nn_one {x : Str} {l : List Nat} (e : TL.tl x = l ++ [10]) (c : Cl l) : Txt.split x nnS = [x] := by
  refine TL.map_tl_inj ((TL.split_spl _ nnS (by rw [nn_tl]; simp) (TL.kind_ok (by decide +kernel))).trans ?_)
  rw [nn_tl, e, List.map_cons, List.map_nil, e]
  refine (TL.spl_last (acc := []) fun i hi => ?_).trans (by rw [List.nil_append])
  rw [List.length_append, List.length_cons, List.length_nil] at hi
  by_cases z : i < l.length
  · exact cl_pre c [10] i z
  · obtain rfl : i = l.length := by omega
    rw [List.drop_left]
    exact pre_two fun r e => by injection e with _ e; cases e
theorem cl_free : ∀ {l : List Nat}, 10 ∉ l → Cl l
  | [], _ => trivial
  | [a], h => fun e => h (by rw [e]; exact List.mem_cons_self)
  | a :: b :: r, h => ⟨fun e => h (by rw [e.1]; exact List.mem_cons_self), cl_free fun m => h (List.mem_cons_of_mem _ m)⟩
theorem cl_app {m : List Nat} (cm : Cl m) (nm : m ≠ []) (hm : m.head? ≠ some 10) : ∀ {l : List Nat}, 10 ∉ l → l ≠ [] → Cl (l ++ 10 :: m)
  | [a], h, _ => by
    obtain ⟨b, r, rfl⟩ := List.exists_cons_of_ne_nil nm
    exact ⟨fun e => h (by rw [e.1]; exact List.mem_cons_self), fun e => hm (by rw [e.2]; rfl), cm⟩
  | a :: b :: r, h, _ => ⟨fun e => h (by rw [e.1]; exact List.mem_cons_self), cl_app cm nm hm (l := b :: r) (fun z => h (List.mem_cons_of_mem _ z)) (List.cons_ne_nil _ _)⟩
theorem nl_tl : TL.tl nlS = [10] := by decide +kernel
/-- rows that are not empty, put together -/
theorem cl_rows : ∀ rows : List Str, rows ≠ [] → (∀ x ∈ rows, TL.tl x ≠ [] ∧ 10 ∉ TL.tl x) → Cl (TL.tl (Str.join nlS rows)) ∧ TL.tl (Str.join nlS rows) ≠ [] ∧ (TL.tl (Str.join nlS rows)).head? ≠ some 10
  | [], h, _ => absurd rfl h
  | [x], _, h => by
    obtain ⟨h1, h2⟩ := h x List.mem_cons_self
    show Cl (TL.tl x) ∧ TL.tl x ≠ [] ∧ (TL.tl x).head? ≠ some 10
    exact ⟨cl_free h2, h1, fun e => h2 (List.mem_of_mem_head? e)⟩
  | x :: z :: r, _, h => by
    obtain ⟨h1, h2⟩ := h x List.mem_cons_self
    obtain ⟨i1, i2, i3⟩ := cl_rows (z :: r) (List.cons_ne_nil _ _) fun y hy => h y (List.mem_cons_of_mem _ hy)
    have e : TL.tl (Str.join nlS (x :: z :: r)) = TL.tl x ++ 10 :: TL.tl (Str.join nlS (z :: r)) := by
      show TL.tl (x ++ nlS ++ Str.join nlS (z :: r)) = _
      rw [TL.tl_append, TL.tl_append, nl_tl, List.append_assoc]
      rfl
    rw [e]
    refine ⟨cl_app i1 i2 i3 h2 h1, fun z => h1 (List.append_eq_nil_iff.mp z).1, fun z => h2 ?_⟩
    obtain ⟨a, t, ea⟩ := List.exists_cons_of_ne_nil h1
    rw [ea] at z ⊢
    exact List.mem_of_mem_head? z
theorem row_ne {h : Str} {t : List Str} (n : TL.tl h ≠ []) : TL.tl (rowS (h :: t)) ≠ [] := by
  cases t with
  | nil => exact n
  | cons x r =>
    rw [row_cons _ (List.cons_ne_nil _ _), TL.tl_append, TL.tl_append]
    exact fun z => n (List.append_eq_nil_iff.mp (List.append_eq_nil_iff.mp z).1).1
theorem Tx.rowsOk {w : Str} {u : UF} (h : Tx w u) : ∀ x ∈ (unitRows w u).map rowS, TL.tl x ≠ [] ∧ 10 ∉ TL.tl x := fun x hx => by
  obtain ⟨ws, hw, rfl⟩ := List.mem_map.mp hx
  refine ⟨?_, ?_⟩
  · unfold unitRows at hw
    rcases List.mem_cons.mp hw with rfl | hw
    · exact row_ne (by decide +kernel)
    · rw [behind_eq] at hw
      obtain ⟨p, hp, rfl⟩ := List.mem_map.mp hw
      have hm := (six_heads u).subset (List.mem_map_of_mem (f := fun p : Str × List Str => p.1) hp)
      refine row_ne ?_
      have all : ∀ z ∈ heads6, TL.tl z ≠ [] := by decide +kernel
      exact all _ hm
  · unfold rowS
    rw [TL.join_eq]
    exact row_free (by decide +kernel) ws fun x hx hc => by
      have := h.free hw hx hc
      omega
theorem Tx.cl {w : Str} {u : UF} (h : Tx w u) : Cl (TL.tl (unitText w u)) ∧ TL.tl (unitText w u) ≠ [] := by
  have := cl_rows ((unitRows w u).map rowS) (by show _ :: _ ≠ []; exact List.cons_ne_nil _ _) h.rowsOk
  unfold unitText
  rw [TL.join_eq]
  exact ⟨this.1, this.2.1⟩
def sp_show_shelf (K : PySem.W.Frag) : Sp := fun vs H Q _ => ∃ (p : Addr) (us : List (Str × UF)), vs = [.ref p] ∧ ShelfAt K H p us ∧ Nms us ∧ (∀ q ∈ us, Tx q.1 q.2) ∧ ∀ H', Same H H' → Q (.str (shelfText us)) H'
theorem ok_show_shelf (T : Txt K mg) : FnOk P w K mg base CX0 7 (He.fAd K ("show_shelf", none)) T.d_show_shelf ["shelf"] (sp_show_shelf K) := by
  refine T.F_show_shelf.ok sc_show_shelf (fun vs H Q E h => ?_) (fun cdv A outer s H vs Q E hr h => ?_)
  · obtain ⟨p, us, rfl, _⟩ := h
    rfl
  · obtain ⟨p, us, rfl, hS, hN, hT, q⟩ := h
    refine ⟨_, PSs.nox (pss_one (ps_ret (pe_join pe_str (pe_lc (own := [("name", 1)]) (by rfl) sc_show_shelf.nd (pi_list (pe_meth0 (pv 0) T.cl_Shelf T.me_Shelf_names (ok_Shelf_names T) (hr.mono (by decide)) T.b_Shelf_names .nil pass0)) (blkOk_by (own := [("name", 1)]) (N := N_show_shelf) (sc := defScope s_show_shelf) (by decide +kernel)) (fun _ _ _ _ _ => (pg_name (i := 1) sc_show_shelf.nd rfl (Or.inl rfl))) (fun _ _ _ _ _ => pts_nil) (fun _ _ _ _ _ => by exact (pe_call (ok_show_unit T) (hr.mono (by decide)) (by rfl) T.m_show_unit T.F_show_unit.kp T.b_show_unit .nil pass0 (pa_cons (pe_meth (pv 0) T.cl_Shelf T.me_Shelf_unit (ok_Shelf_unit T) (hr.mono (by decide)) T.b_Shelf_unit .nil pass0 (pa_cons (pv 1) pa_nil)) pa_nil))))))), ?_⟩
    have few := hN.few
    obtain ⟨dx, d, kvs, hp, hd, ht⟩ := id hS
    refine ⟨⟨_, rfl⟩, _, rfl, p, dx, _, rfl, hp, rfl, p, us, rfl, hS, hN, fun l H1 nl s1 wl => ?_⟩
    refine ⟨l, rfl, ⟨_, SqL.of wl⟩, fun D nD => ?_⟩
    refine lc_list (xs := (srt (us.map (·.1))).map V.str) (fun i H' => Same H1 H' ∧ H' D = some (.lst ((((ordU us).map pT).take i).map V.str))) ⟨same_upd nD, upd_same⟩ (fun i H' _ h => SqL.of (h.1 _ _ wl)) ?_ ?_
    · rintro i x H2 hi ⟨s2, w2⟩
      obtain ⟨o, ho, rfl⟩ := map_str_get hi
      have hom : o ∈ us.map (·.1) := srt_mem.mp (List.mem_of_getElem? ho)
      have s12 := s1.trans s2
      refine ⟨rfl, yes_of (iteT ?_)⟩
      refine ⟨_, rfl, p, dx, _, rfl, s12 _ _ hp, rfl, _, rfl, p, o, us, rfl, hS.same s12, hN, hom, fun a u hu hA => ?_⟩
      refine ⟨a, o, u, rfl, hA, hT _ hu, fun H3 s3 => ?_⟩
      have one : ((ordU us).map pT)[i]? = some (unitText o u) := by
        unfold ordU
        rw [List.getElem?_map, List.getElem?_map, ho]
        show some (unitText o (gu us o)) = _
        rw [show gu us o = u from gu_of hN.nd hu]
      refine ⟨_, s3 _ _ w2, ?_, Same.own (s2.trans s3) (mut_keep rfl) nD, ?_⟩
      · rw [List.length_map]
        refine Nat.lt_of_le_of_lt (List.length_take_le' ..) (small1000 ?_)
        rw [List.length_map, ordU_len]
        omega
      · rw [upd_same, take_snoc one, List.map_append]
        rfl
    · rintro H2 ⟨s2, w2⟩
      rw [show ((srt (us.map (·.1))).map V.str).length = ((ordU us).map pT).length by rw [List.length_map, List.length_map, ordU_len, srt_len, List.length_map], List.take_length] at w2
      have l2 : nnS.length = 2 := by decide +kernel
      have sm := sum_le 800 ((ordU us).map pT) fun x hx => by
        obtain ⟨r, hr, rfl⟩ := List.mem_map.mp hx
        exact (hT r (ordU_mem hN.nd hr)).len
      rw [List.length_map, ordU_len] at sm
      refine ⟨nnS, D, _, rfl, rfl, .inl (SqL.of w2), ?_, q H2 (s1.trans s2)⟩
      rw [l2, List.length_map, ordU_len]
      omega

-- SPLIT
/-! ### a shelf, read back -/
/-- a text that nobody can read as a shelf -/
def BadS (x : Str) : Prop := x.length ≤ 18000 ∧ x ≠ Str.empty ∧ ∃ (gs : List (Str × UF)) (more : List Str), Txt.split x nnS = gs.map pT ++ more ∧ gs.length ≤ 17 ∧ (∀ q ∈ gs, Tx q.1 q.2) ∧
  ((more = [] ∧ ¬ ((gs.map (·.1)).Nodup ∧ srt (gs.map (·.1)) = gs.map (·.1))) ∨ ∃ b tail, more = b :: tail ∧ BadU b)
/-- a thing that is no text -/
def NoStr (K : PySem.W.Frag) (H : Hp) (v : V) : Prop := ∃ T, UO.plainTy H K v T ∧ T ≠ "str"
theorem NoStr.ty {H : Hp} {v : V} (h : NoStr K H v) : ∃ t, TyX K H v t ∧ PySem.W.kitOne K t (.type "str") = some false := by
  obtain ⟨T, hT, ne⟩ := h
  obtain ⟨ty, h6⟩ := UO.plain_ty hT
  refine ⟨_, ty, kit_ty ?_⟩
  unfold UO.sixT at h6
  simp only [List.mem_cons, List.not_mem_nil, or_false] at h6
  rcases h6 with rfl | rfl | rfl | rfl | rfl | rfl
  · decide +kernel
  · decide +kernel
  · decide +kernel
  · exact absurd rfl ne
  · decide +kernel
  · decide +kernel
theorem srt_srt (xs : List Str) : srt (srt xs) = srt xs := (srt_uniq (List.Perm.refl _) (srt_pw xs)).symm
theorem srt_perm_eq {xs ys : List Str} (p : ys.Perm xs) : srt ys = srt xs := srt_uniq ((srt_perm ys).trans p) (srt_pw ys)
theorem join_none : Txt.join nnS (([] : List (Str × UF)).map pT) = Str.empty := by
  rw [List.map_nil, TL.join_eq]
  rfl
theorem join_some {gs : List (Str × UF)} (n : gs ≠ []) (h : ∀ q ∈ gs, Tx q.1 q.2) : Txt.join nnS (gs.map pT) ≠ Str.empty := by
  obtain ⟨g, gs, rfl⟩ := List.exists_cons_of_ne_nil n
  obtain ⟨_, ne⟩ := (h g List.mem_cons_self).cl
  intro e
  have e0 : TL.tl Str.empty = [] := by decide +kernel
  rw [TL.join_eq] at e
  have e := congrArg TL.tl e
  rw [e0] at e
  cases gs with
  | nil => exact ne e
  | cons z r =>
    have e : TL.tl (unitText g.1 g.2 ++ nnS ++ Str.join nnS ((z :: r).map pT)) = [] := e
    rw [TL.tl_append, TL.tl_append] at e
    exact ne (List.append_eq_nil_iff.mp (List.append_eq_nil_iff.mp e).1).1
theorem join_long {gs : List (Str × UF)} (h : ∀ q ∈ gs, Tx q.1 q.2) (few : gs.length ≤ 17) : (Txt.join nnS (gs.map pT)).length ≤ 14000 := by
  have l2 : nnS.length = 2 := by decide +kernel
  have sm := sum_le 800 (gs.map pT) fun x hx => by
    obtain ⟨r, hr, rfl⟩ := List.mem_map.mp hx
    exact (h r hr).len
  have jl := join_len nnS (gs.map pT)
  rw [TL.join_eq]
  rw [l2] at jl
  rw [List.length_map] at sm jl
  omega
theorem cut_all {gs : List (Str × UF)} (n : gs ≠ []) (h : ∀ q ∈ gs, Tx q.1 q.2) : Txt.split (Txt.join nnS (gs.map pT)) nnS = gs.map pT :=
  nn_cut (fun e => n (List.map_eq_nil_iff.mp e)) fun p hp => by
    obtain ⟨r, hr, rfl⟩ := List.mem_map.mp hp
    exact (h r hr).cl.1
def sp_read_shelf (K : PySem.W.Frag) : Sp := fun vs H Q E => (∃ gs : List (Str × UF), vs = [.str (Txt.join nnS (gs.map pT))] ∧ (∀ q ∈ gs, Tx q.1 q.2) ∧ Nms gs ∧ srt (gs.map (·.1)) = gs.map (·.1) ∧ ∀ p H', H p = none → Same H H' → ShelfAt K H' p gs → Q (.ref p) H') ∨
  (∃ x : Str, vs = [.str x] ∧ BadS x ∧ NoT K H E) ∨ ∃ v, vs = [v] ∧ NoStr K H v ∧ NoT K H E
theorem ok_read_shelf (T : Txt K mg) : FnOk P w K mg base (L2N.CX P w) 5 (He.fAd K ("read_shelf", none)) T.d_read_shelf ["text"] (sp_read_shelf K) := by
  refine T.F_read_shelf.ok sc_read_shelf (fun vs H Q E h => ?_) (fun cdv A outer s H vs Q E hr h => ?_)
  · rcases h with ⟨gs, rfl, _⟩ | ⟨x, rfl, _⟩ | ⟨v, rfl, _⟩
    · rfl
    · rfl
    · rfl
  · have pick : (vs = [.str Str.empty] ∧ Nms [] ∧ ∀ p H', H p = none → Same H H' → ShelfAt K H' p [] → Q (.ref p) H') ∨
        (∃ (x : Str) (gs : List (Str × UF)) (more : List Str), vs = [.str x] ∧ x.length ≤ 18000 ∧ x ≠ Str.empty ∧ Txt.split x nnS = gs.map pT ++ more ∧ gs.length ≤ 17 ∧ (∀ q ∈ gs, Tx q.1 q.2) ∧
        ((more = [] ∧ ¬ ((gs.map (·.1)).Nodup ∧ srt (gs.map (·.1)) = gs.map (·.1)) ∧ NoT K H E) ∨ (∃ b tail, more = b :: tail ∧ BadU b ∧ NoT K H E) ∨ (more = [] ∧ Nms gs ∧ srt (gs.map (·.1)) = gs.map (·.1) ∧ ∀ p H', H p = none → Same H H' → ShelfAt K H' p gs → Q (.ref p) H'))) ∨ ∃ v, vs = [v] ∧ NoStr K H v ∧ NoT K H E := by
      rcases h with ⟨gs, rfl, hT, hN, hs, q⟩ | ⟨x, rfl, ⟨lx, nx, gs, more, cut, lg, hT, hb⟩, qE⟩ | odd
      · by_cases c : gs = []
        · subst c
          exact .inl ⟨by rw [join_none], hN, q⟩
        · exact .inr (.inl ⟨_, gs, [], rfl, Nat.le_trans (join_long hT (by have := hN.few; omega)) (by decide), join_some c hT, by rw [List.append_nil]; exact cut_all c hT, by have := hN.few; omega, hT, .inr (.inr ⟨rfl, hN, hs, q⟩)⟩)
      · refine .inr (.inl ⟨x, gs, more, rfl, lx, nx, cut, lg, hT, ?_⟩)
        rcases hb with ⟨e, bad⟩ | ⟨b, tail, e, bad⟩
        · exact .inl ⟨e, bad, qE⟩
        · exact .inr (.inl ⟨b, tail, e, bad, qE⟩)
      · exact .inr (.inr odd)
    refine ⟨_, (pss_cons (ps_if (pt_not (pt_val (pe_callB (id := "isinstance")  call_isi (by rfl) T.n_isinstance (by decide +kernel) (pa_cons (pv 0) (pa_cons (pe_bltn (v := .ty "str") (u := .type "str") (by rfl) T.n_str (by decide +kernel) rfl) pa_nil)))))
      (pss_one (L2N.ps_raise (by rfl) (L2N.takes_of rfl rfl rfl rfl) (UF.pm_bare T.bx_NoText (by rfl) T.m_NoText (pa_cons pe_str pa_nil))))
      pss_nil)
      (pss_cons (ps_if (pt_cmpR op_eq (pv 0) pe_str (nomark _))
      (pss_one (ps_ret (pe_make0 T.mk_Shelf (ok_Shelf_init T) (hr.mono (by decide)) (by rfl) T.m_Shelf T.b1_Shelf_init.choose_spec.2 T.b1_Shelf_init.choose_spec.1 pass0)))
      pss_nil)
      (pss_cons (UC.ps_setLcR (i := 1) (own := [("part", 3)]) (by rfl) rfl rfl (L2N.takes_of rfl rfl rfl rfl) sc_read_shelf.nd rfl rfl (sw_true rfl rfl rfl (by decide +kernel)) (pi_list (pe_split (pv 0) pe_str)) (blkOk_by (own := [("part", 3)]) (N := N_read_shelf) (sc := defScope s_read_shelf) (by decide +kernel)) (fun _ _ _ _ _ _ => (pg_name (i := 3) sc_read_shelf.nd rfl (Or.inl rfl))) (fun _ _ _ _ _ _ => pts_nil) (fun _ _ _ _ _ _ hp => (pe_call (ok_read_unit T) (hr.mono (by decide)) (by rfl) T.m_read_unit T.F_read_unit.kp T.b_read_unit .nil hp (pa_cons (pv 3) pa_nil))))
      (pss_cons (ps_setLc (i := 2) (own := [("unit", 4)]) (by rfl) sc_read_shelf.nd rfl rfl (sw_true rfl rfl rfl (by decide +kernel)) (pi_list (pv 1)) (blkOk_by (own := [("unit", 4)]) (N := N_read_shelf) (sc := defScope s_read_shelf) (by decide +kernel)) (fun _ _ _ _ _ => (pg_name (i := 4) sc_read_shelf.nd rfl (Or.inl rfl))) (fun _ _ _ _ _ => pts_nil) (fun _ _ _ _ _ => by exact (UP.pe_fldK (K := K) (by rfl) (pv 4) (by rfl))))
      (pss_cons (ps_if (PW.pt (pw_or (pt_cmpR op_gt (pe_callB (id := "len")  call_len_seq (by rfl) T.n_len (by decide +kernel) (pa_cons (pv 2) pa_nil)) (pe_glob (v := .int 16) (by rfl) T.c_MOST.choose_spec ⟨_, rfl⟩) (nomark _)) (pw_or1 (pt_cmpR (op_neD hr.units) (pv 2) (pe_callB (id := "sorted")  (UZ.cr_sortT rfl) (by rfl) T.n_sorted (by decide +kernel) (pa_cons (pe_callTy (T := "set")  (UZ.cr_setT rfl) (by rfl) T.n_set (by decide +kernel) (pa_cons (pv 2) pa_nil)) pa_nil)) (nomark _)))))
      (pss_one (L2N.ps_raise (by rfl) (L2N.takes_of rfl rfl rfl rfl) (UF.pm_bare T.bx_NoText (by rfl) T.m_NoText (pa_cons pe_str pa_nil))))
      pss_nil)
      (pss_one (ps_ret (pe_make T.mk_Shelf (ok_Shelf_init T) (hr.mono (by decide)) (by rfl) T.m_Shelf T.b2_Shelf_init .nil pass0 (pa_cons (pv 1) pa_nil))))))))), ?_⟩
    rcases pick with ⟨rfl, hN, q⟩ | ⟨x, gs, more, rfl, lx, nx, cut, lg, hT, out⟩ | ⟨v, rfl, nv, qE⟩
    · refine ⟨_, rfl, _, _, _, _, true, rfl, .ty "str", .base (.str _), kit_ty (by decide +kernel), _, rfl, iteF ?_⟩
      refine ⟨_, rfl, rfl, _, rfl, ?_⟩
      rw [decide_eq_true (show V.str Str.empty = V.str (Str.ofString "") from rfl)]
      refine iteT fun x dx nx nd ne => ?_
      exact ⟨x, dx, _, [], [], rfl, upd_same, .inr (T.e1_Shelf_init _), .nil, hN, fun H' hS kp => ⟨rfl, q x H' nx (Same.made nx nd fun b o e n => kp b o e n) hS⟩⟩
    rotate_left
    · obtain ⟨t, ty, kt⟩ := nv.ty
      exact ⟨_, rfl, _, _, _, _, false, rfl, .ty "str", ty, kt, _, rfl, iteT ⟨by show 1 ≤ 1000; decide, qE _ (Same.refl _)⟩⟩
    refine ⟨_, rfl, _, _, _, _, true, rfl, .ty "str", .base (.str _), kit_ty (by decide +kernel), _, rfl, iteF ?_⟩
    refine ⟨_, rfl, rfl, _, rfl, ?_⟩
    rw [decide_eq_false (show ¬ V.str x = V.str (Str.ofString "") from fun z => nx (V.str.inj z))]
    refine iteF ?_
    refine ⟨_, rfl, ⟨_, rfl⟩, _, _, rfl, rfl, by decide +kernel, lo16 (by omega), fun A nA => ?_⟩
    rw [cut]
    generalize hE1 : upd H A _ = H1
    have wA := new_at hE1
    have s1 := new_same hE1 nA
    refine ⟨A, rfl, ⟨_, SqL.of wA⟩, fun D nD => ?_⟩
    refine lc_list (xs := (gs.map pT ++ more).map V.str) (fun i H' => i ≤ gs.length ∧ Same H1 H' ∧ ∃ xs, H' D = some (.lst xs) ∧ ULs K H' xs (gs.take i)) ⟨Nat.zero_le _, same_upd nD, [], upd_same, .nil⟩ (fun i H' _ h => SqL.of (h.2.1 _ _ wA)) ?_ ?_
    · rintro i y H2 hi ⟨ile, s2, xs, w2, hU⟩
      obtain ⟨t, ht, rfl⟩ := map_str_get hi
      refine ⟨rfl, yes_of (iteT ?_)⟩
      by_cases c : i < gs.length
      · have hg := List.getElem?_eq_getElem c
        have mg := List.mem_of_getElem? hg
        rw [List.getElem?_append_left (by rw [List.length_map]; exact c), List.getElem?_map, hg] at ht
        cases ht
        refine ⟨_, rfl, .inl ⟨_, _, rfl, hT _ mg, fun p H3 np s3 hA => ?_⟩⟩
        have w3 := s3 _ _ w2
        refine ⟨xs, w3, by rw [hU.len, List.length_take]; exact small1000 (by omega), ?_⟩
        generalize hE4 : upd H3 D _ = H4
        have m4 := mut_keep hE4
        refine ⟨c, Same.own (s2.trans s3) m4 nD, _, new_at hE4, ?_⟩
        rw [take_snoc hg]
        exact ((hU.same s3).keepN m4 (.lst w3) (.lst w3)).app (.cons (hA.keepN m4 (.lst w3) (.lst w3)) .nil)
      · obtain rfl : i = gs.length := by omega
        rw [List.getElem?_append_right (by rw [List.length_map]; exact Nat.le_refl _), List.length_map, Nat.sub_self] at ht
        rcases out with ⟨rfl, _⟩ | ⟨b, tail, rfl, hb, qE⟩ | ⟨rfl, _⟩
        · cases ht
        · cases ht
          exact ⟨_, rfl, .inr ⟨_, rfl, hb, fun H' s' => qE _ (s1.trans (s2.trans s'))⟩⟩
        · cases ht
    rintro H2 ⟨ile, s2, xs, w2, hU⟩
    rw [List.length_map, List.length_append, List.length_map] at ile hU
    have m0 : more = [] := List.length_eq_zero_iff.mp (by omega)
    rw [List.take_of_length_le (by omega)] at hU
    refine ⟨_, rfl, D, rfl, ⟨_, SqL.of w2⟩, fun D2 nD2 => ?_⟩
    refine lc_list (xs := xs) (fun i H' => Same H2 H' ∧ H' D2 = some (.lst (((gs.map (·.1)).take i).map V.str))) ⟨same_upd nD2, upd_same⟩ (fun i H' _ h => SqL.of (h.1 _ _ w2)) ?_ ?_
    · rintro i y H3 hi ⟨s3, w3⟩
      obtain ⟨a, w, u, rfl, hu, hA⟩ := hU.get hi
      obtain ⟨dxu, n1, n2, n3, n4, r, ha, _⟩ := id (hA.same s3)
      have hn : (gs.map (·.1))[i]? = some w := by
        rw [List.getElem?_map, hu]
        rfl
      refine ⟨rfl, yes_of (iteT ⟨_, rfl, a, _, dxu, _, _, rfl, ha, T.cl_Unit, T.na_Unit_name, rfl, _, w3, ?_, Same.own s3 (mut_keep rfl) nD2, ?_⟩)⟩
      · rw [List.length_map]
        refine Nat.lt_of_le_of_lt (List.length_take_le' ..) (small1000 ?_)
        rw [List.length_map]
        omega
      · rw [upd_same, take_snoc hn, List.map_append]
        rfl
    rintro H3 ⟨s3, w3⟩
    rw [hU.len, List.take_of_length_le (by rw [List.length_map]; exact Nat.le_refl _)] at w3
    have s13 := (s1.trans s2).trans s3
    refine ⟨_, rfl, D2, _, rfl, .inl (SqL.of w3), _, _, rfl, rfl, _, rfl, ?_⟩
    rw [List.length_map, List.length_map]
    by_cases c16 : (16 : Int) < ((gs.length : Nat) : Int)
    · refine iteYd c16 ?_
      rcases out with ⟨_, _, qE⟩ | ⟨b, tail, rfl, _⟩ | ⟨_, hN, _⟩
      · exact iteT ⟨by show 1 ≤ 1000; decide, qE _ s13⟩
      · cases m0
      · have := hN.few
        omega
    refine iteNd c16 ?_
    refine ⟨_, rfl, _, rfl, D2, gs.map (·.1), rfl, .inl (SqL.of w3), by rw [List.length_map]; omega, fun p ds np nds mem le => ?_⟩
    rw [List.length_map] at le
    generalize hE4 : upd H3 p _ = H4
    have w4 := new_at hE4
    have s4 := new_same hE4 np
    refine ⟨p, ds, rfl, w4, by omega, fun ys l perm srtd nl => ?_⟩
    obtain rfl := srt_of perm srtd
    generalize hE5 : upd H4 l _ = H5
    have w5 := new_at hE5
    have s5 := s4.trans (new_same hE5 nl)
    have ok : ∀ z ∈ gs.map (·.1), PyData.strOk z = true := fun z hz => by
      obtain ⟨r, hr, rfl⟩ := List.mem_map.mp hz
      exact (hT r hr).nm.ok
    refine neD_strs (SqL.of (s5 _ _ w3)) (SqL.of w5) ok (fun z hz => ok z ((mem z).mp (srt_mem.mp hz))) ⟨_, rfl, ?_⟩
    have s15 := s13.trans s5
    rcases out with ⟨_, bad, qE⟩ | ⟨b, tail, rfl, _⟩ | ⟨_, hN, hs, q⟩
    · rw [decide_eq_false (show ¬ gs.map (·.1) = srt ds from fun z => bad (by rw [z]; exact ⟨srt_nodup nds, srt_srt ds⟩))]
      exact iteT ⟨by show 1 ≤ 1000; decide, qE _ s15⟩
    · cases m0
    · have pm : ds.Perm (gs.map (·.1)) := (List.perm_ext_iff_of_nodup nds hN.nd).mpr mem
      rw [decide_eq_true (show gs.map (·.1) = srt ds by rw [srt_perm_eq pm, hs])]
      refine iteF ⟨_, rfl, fun x dx nx nd ne => ?_⟩
      have sx : Same H5 (upd (upd H5 dx (.own x)) x (.ins (He.ga K "Shelf") dx [])) := (same_upd nd).trans (same_upd (by rw [upd_ne ne.symm]; exact nx))
      have s25 := (s3.trans s5).trans sx
      exact ⟨x, dx, D, xs, gs, rfl, upd_same, .inl (SqL.of (s25 _ _ w2)), hU.same s25, hN, fun H' hS kp => ⟨rfl, q x H' (s15.free nx) (s15.trans (Same.made nx nd fun b o e n => kp b o e n)) hS⟩⟩

-- SPLIT
/-! ### the facts as a table, the units of it -/
abbrev FTab (K : PySem.W.Frag) (H : Hp) : List (Key × V) → List (Str × UF) → Prop := Tab fun v _ u => FactS K H v u
theorem FactS.same {H H' : Hp} {v : V} {u : UF} (h : FactS K H v u) (s : Same H H') : FactS K H' v u := by
  obtain ⟨t, n, x, b, a, g, e, h0, h1, h2, h3, h4, h5⟩ := h
  exact ⟨t, n, x, b, a, g, e, tup_same s h0, tup_same s h1, tup_same s h2, tup_same s h3, tup_same s h4, h5.same s⟩
theorem FactS.keep {H H' : Hp} {q : Addr} {v : V} {u : UF} (h : FactS K H v u) (k : Kp q H H') (n : NotTp H q) : FactS K H' v u := by
  obtain ⟨t, n1, x, b, a, g, e, h0, h1, h2, h3, h4, h5⟩ := h
  exact ⟨t, n1, x, b, a, g, e, k.tup n h0, k.tup n h1, k.tup n h2, k.tup n h3, k.tup n h4, h5.keep k fun xs => (n xs).1⟩
theorem FactsAt.tab {H : Hp} {kvs : List (Key × V)} {us : List (Str × UF)} (h : FactsAt H kvs us) : FTab K H kvs us := by
  induction h with
  | nil => exact .nil
  | snoc _ e ih => exact ih.app (.cons (FactAt.s e) .nil)
theorem FTab.same {H H' : Hp} {kvs : List (Key × V)} {us : List (Str × UF)} (h : FTab K H kvs us) (s : Same H H') : FTab K H' kvs us := h.imp fun _ _ _ r => FactS.same r s
theorem FTab.keep {H H' : Hp} {q : Addr} {kvs : List (Key × V)} {us : List (Str × UF)} (h : FTab K H kvs us) (k : Kp q H H') (n : NotTp H q) : FTab K H' kvs us := h.imp fun _ _ _ r => FactS.keep r k n
theorem NotTp.frz {H : Hp} {q : Addr} {o : Obj} {kvs : List (Key × V)} (h : H q = some (.frz o (.dK kvs))) : NotTp H q := fun ys => ⟨(fun e => by rw [h] at e; cases e), (fun o' e => by rw [h] at e; cases e)⟩
def sp_law_units (K : PySem.W.Frag) : Sp := fun vs H Q _ => ∃ (d : Addr) (kvs : List (Key × V)) (us : List (Str × UF)), vs = [.ref d] ∧ H d = some (.dK kvs) ∧ FTab K H kvs us ∧ Nms us ∧
  ∀ l xs H', H l = none → Same H H' → H' l = some (.lst xs) → ULs K H' xs us → Q (.ref l) H'
theorem ok_law_units (T : Txt K mg) : FnOk P w K mg base CX0 5 (He.fAd K ("_law_units", none)) T.d_law_units ["_law_facts_here"] (sp_law_units K) := by
  refine T.F_law_units.ok sc_law_units (fun vs H Q E h => ?_) (fun cdv A outer s H vs Q E hr h => ?_)
  · obtain ⟨d, kvs, us, rfl, _⟩ := h
    rfl
  · obtain ⟨d, kvs, us, rfl, hd, ht, hN, q⟩ := h
    refine ⟨_, PSs.nox (pss_one (ps_ret (pe_lock (pe_lc (own := [("_law_word", 1)]) (by rfl) sc_law_units.nd (pi_keys (pv 0)) (blkOk_by (own := [("_law_word", 1)]) (N := N_law_units) (sc := defScope s_law_units) (by decide +kernel)) (fun _ _ _ _ _ => (pg_name (i := 1) sc_law_units.nd rfl (Or.inl rfl))) (fun _ _ _ _ _ => pts_nil) (fun _ _ _ _ _ => (pe_call (ok_law_unit T) (hr.mono (by decide)) (by rfl) T.m_law_unit T.F_law_unit.kp T.b_law_unit .nil pass0 (pa_cons (pv 1) (pa_cons (pv 0) pa_nil)))))))), ?_⟩
    refine ⟨d, _, hd, trivial, fun od => ?_⟩
    generalize hE1 : upd H d _ = H1
    have wd := new_at hE1
    have m1 := mut_keep hE1
    have ht1 := FTab.keep ht m1 (.dK hd)
    refine ⟨_, rfl, d, od, rfl, .inl ⟨kvs, wd, fun D nD => ?_⟩⟩
    have few := hN.few
    have ndD : d ≠ D := ne_some wd nD
    refine lc_it walk_keys (fun i H' => Same H1 H' ∧ ∃ xs, H' D = some (.lst xs) ∧ ULs K H' xs (us.take i)) ⟨same_upd nD, [], upd_same, .nil⟩ (fun i H' _ h => h.1 _ _ wd) ?_ ?_
    · rintro i x H2 H2' hi ⟨s2, xs, w2, hU⟩ ⟨rfl, k, v, hk, rfl⟩
      obtain ⟨w, u, rfl, hu, r⟩ := ht1.at hk
      refine ⟨rfl, yes_of (iteT ?_)⟩
      obtain ⟨v', hv', r'⟩ := ht1.get hN.nd (w, u) (List.mem_of_getElem? hu)
      have hg : DGet H2' d (.str w) (some v') := by
        rw [← hv']
        exact .inl ⟨kvs, Sum.inr w, .inr ⟨od, s2 _ _ wd⟩, rfl, rfl⟩
      refine ⟨_, rfl, _, rfl, w, d, v', u, rfl, hg, FactS.same r' s2, fun p H3 np s3 hA => ?_⟩
      have w3 := s3 _ _ w2
      refine ⟨xs, w3, by rw [hU.len, List.length_take]; exact small1000 (by omega), ?_⟩
      generalize hE4 : upd H3 D _ = H4
      have m4 := mut_keep hE4
      refine ⟨Same.own (s2.trans s3) m4 nD, _, new_at hE4, ?_⟩
      rw [take_snoc hu]
      exact ((hU.same s3).keepN m4 (.lst w3) (.lst w3)).app (.cons (hA.keepN m4 (.lst w3) (.lst w3)) .nil)
    · rintro H2 ⟨s2, xs, w2, hU⟩
      rw [ht.len, List.take_length] at hU
      have wd2 := s2 _ _ wd
      refine ⟨wd2, ?_⟩
      generalize hE3 : upd H2 d _ = H3
      have m3 := mut_keep hE3
      have nlH : H D = none := by
        have : H1 D = none := nD
        rw [← hE1, upd_ne ndD.symm] at this
        exact this
      refine q D xs H3 nlH (fun c o e => ?_) (m3 _ _ w2 ndD.symm) (hU.keepN m3 (NotTp.frz wd2) fun C dx f fs z => by rw [wd2] at z; cases z)
      by_cases c0 : c = d
      · subst c0
        rw [hd] at e
        cases e
        exact new_at hE3
      · exact m3 _ _ (s2 _ _ (m1 _ _ e c0)) c0

/-! ### the facts of a law -/
theorem inV_bl (bs : List Bool) : inV (.bl true) (bs.map V.bl) = bs.any id := by
  unfold inV
  rw [List.any_map]
  congr 1
  funext b
  cases b <;> rfl
theorem bls_flat (bs : List Bool) : (bs.map V.bl).all flatV = true := by
  rw [List.all_eq_true]
  intro v hv
  obtain ⟨x, _, rfl⟩ := List.mem_map.mp hv
  rfl
/-- the facts of a law stand so -/
structure LF (K : PySem.W.Frag) (H : Hp) (d : Addr) (us : List (Str × UF)) : Prop where
  ex : ∃ kvs, H d = some (.dK kvs) ∧ FTab K H kvs us
  nms : Nms us
  few : ∀ p ∈ us, p.2.needs.length ≤ 100 ∧ p.2.after.length ≤ 100
theorem LF.same {H H' : Hp} {d : Addr} {us : List (Str × UF)} (h : LF K H d us) (s : Same H H') : LF K H' d us := by
  obtain ⟨kvs, h1, h2⟩ := h.ex
  exact ⟨⟨kvs, s _ _ h1, FTab.same h2 s⟩, h.nms, h.few⟩
theorem LF.keepL {H H' : Hp} {d q : Addr} {us : List (Str × UF)} {xs : List V} (h : LF K H d us) (k : Kp q H H') (hq : H q = some (.lst xs)) : LF K H' d us := by
  obtain ⟨kvs, h1, h2⟩ := h.ex
  exact ⟨⟨kvs, k _ _ h1 (fun e => by rw [e, hq] at h1; cases h1), FTab.keep h2 k (.lst hq)⟩, h.nms, h.few⟩
theorem LF.keepB {H H' : Hp} {d q : Addr} {us : List (Str × UF)} {n : Nat} (h : LF K H d us) (k : Kp q H H') (B : Bag n H q) : LF K H' d us := by
  obtain ⟨_, _, _, hq, _⟩ := B.ex
  exact h.keepL k hq

-- SPLIT
/-! ### the due text -/
theorem five_get2 {f m t b s : Int} (W : Wr f m t b s) {j : Nat} {x : V} (h : [V.int f, .int m, .int t, .int b, .int s][j]? = some x) : ∃ v, x = .int v ∧ (words f m t b s)[j]? = some (nT v) ∧ 0 ≤ v ∧ v ≤ 1000000 := by
  have j5 : j < 5 := (List.getElem?_eq_some_iff.mp h).1
  match j, j5, h with
  | 0, _, h => cases h; exact ⟨f, rfl, rfl, W.f0, W.f1⟩
  | 1, _, h => cases h; exact ⟨m, rfl, rfl, W.m0, W.m1⟩
  | 2, _, h => cases h; exact ⟨t, rfl, rfl, W.t0, W.t1⟩
  | 3, _, h => cases h; exact ⟨b, rfl, rfl, W.b0, W.b1⟩
  | 4, _, h => cases h; exact ⟨s, rfl, rfl, W.s0, W.s1⟩
theorem unit_head' (w k : Str) : Str.ofString "unit " ++ w ++ spS ++ k = rowS [Str.ofString "unit", w, k] := by
  rw [← unit_head, Str.empty_append]
theorem opens_row' (g : Str) : Str.ofString "opens " ++ g = rowS [Str.ofString "opens", g] := by
  rw [← opens_row, Str.empty_append]
theorem rule_row' (ws : List Str) (n : ws ≠ []) : Str.ofString "rule " ++ rowS ws = rowS (Str.ofString "rule" :: ws) := by
  rw [← rule_row _ n, Str.empty_append]
def sp_law_unit_text (K : PySem.W.Frag) : Sp := fun vs H Q _ => ∃ (w : Str) (d : Addr) (v : V) (u : UF), vs = [.str w, .ref d] ∧ DGet H d (.str w) (some v) ∧ FactS K H v u ∧ Tx w u ∧
  ∀ H', Same H H' → Q (.str (unitText w u)) H'
theorem ok_law_unit_text (T : Txt K mg) : FnOk P w K mg base CX0 1 (He.fAd K ("_law_unit_text", none)) T.d_law_unit_text ["_law_word", "_law_facts_here"] (sp_law_unit_text K) := by
  refine T.F_law_unit_text.ok sc_law_unit_text (fun vs H Q E h => ?_) (fun cdv A outer s H vs Q E hr h => ?_)
  · obtain ⟨w, d, v, u, rfl, _⟩ := h
    rfl
  · obtain ⟨w, d, v, u, rfl, hd, hF, hT, q⟩ := h
    refine ⟨_, PSs.nox (pss_cons (ps_asg (pe_dget (hu_of hr) (pv 1) (pv 0) (fun _ _ => rfl)) (pg_tup rfl (pgs_cons (pg_name (i := 2) sc_law_unit_text.nd rfl (Or.inl rfl)) (pgs_cons (pg_name (i := 3) sc_law_unit_text.nd rfl (Or.inl rfl)) (pgs_cons (pg_name (i := 4) sc_law_unit_text.nd rfl (Or.inl rfl)) (pgs_cons (pg_name (i := 5) sc_law_unit_text.nd rfl (Or.inl rfl)) (pgs_cons (pg_name (i := 6) sc_law_unit_text.nd rfl (Or.inl rfl)) (pgs_cons (pg_name (i := 7) sc_law_unit_text.nd rfl (Or.inl rfl)) (pgs_cons (pg_name (i := 8) sc_law_unit_text.nd rfl (Or.inl rfl)) pgs_nil)))))))))
      (pss_cons (ps_set (i := 9) sc_law_unit_text.nd rfl (Or.inl rfl) (pe_lst (pa_cons (pe_op op_add_str (pe_op op_add_str (pe_op op_add_str pe_str (pv 0)) pe_str) (pv 2)) pa_nil)))
      (pss_cons (ps_for PassesOwn.never rfl (pi_zip (by rfl) T.n_zip (pa_cons (pe_lst (pa_cons pe_str (pa_cons pe_str (pa_cons pe_str (pa_cons pe_str pa_nil))))) (pa_cons (pe_lst (pa_cons (pv 3) (pa_cons (pv 4) (pa_cons (pv 5) (pa_cons (pv 6) pa_nil))))) pa_nil))) (pg_tup rfl (pgs_cons (pg_name (i := 10) sc_law_unit_text.nd rfl (Or.inl rfl)) (pgs_cons (pg_name (i := 11) sc_law_unit_text.nd rfl (Or.inl rfl)) pgs_nil)))
      (pss_one (ps_if (pt_cmpR op_gt (pe_callB (id := "len")  call_len_seq (by rfl) T.n_len (by decide +kernel) (pa_cons (pv 11) pa_nil)) pe_int (nomark _))
      (pss_one (ps_expr (pe_bm PySem.F.plainAttrs_list PySem.F.slot_list_append PySem.F.type_list_append mt_append (pv 9) (pa_cons (pe_op op_add_str (pe_op op_add_str (pv 10) pe_str) (pe_join pe_str (pv 11))) pa_nil))))
      pss_nil)))
      (pss_mid (ps_if (pt_cmpR op_notN (pv 7) pe_non (nomark _))
      (pss_one (ps_expr (pe_bm PySem.F.plainAttrs_list PySem.F.slot_list_append PySem.F.type_list_append mt_append (pv 9) (pa_cons (pe_op op_add_str pe_str (pv 7)) pa_nil))))
      pss_nil)
      (pss_mid (ps_if (pt_cmpR op_notN (pv 8) pe_non (nomark _))
      (pss_one (ps_expr (pe_bm PySem.F.plainAttrs_list PySem.F.slot_list_append PySem.F.type_list_append mt_append (pv 9) (pa_cons (pe_op op_add_str pe_str (pe_join pe_str (pe_lc (own := [("_law_number", 12)]) (by rfl) sc_law_unit_text.nd (pi_tup (pv 8)) (blkOk_by (own := [("_law_number", 12)]) (N := N_law_unit_text) (sc := defScope s_law_unit_text) (by decide +kernel)) (fun _ _ _ _ _ => (pg_name (i := 12) sc_law_unit_text.nd rfl (Or.inl rfl))) (fun _ _ _ _ _ => pts_nil) (fun _ _ _ _ _ => (pe_callTy (T := "str")  call_str_int (by rfl) T.n_str (by decide +kernel) (pa_cons (pv 12) pa_nil)))))) pa_nil))))
      pss_nil)
      (pss_one (ps_ret (pe_join pe_str (pv 9))))))))), ?_⟩
    obtain ⟨t, n, x, b, a, g, rfl, wt, wn, wx, wb, wa, hg⟩ := hF
    have ln := hT.nm.2.2
    have lk : u.kind.length ≤ 4 := by
      rcases hT.kd with e | e | e <;> rw [e] <;> decide +kernel
    have l5 : (Str.ofString "unit ").length = 5 := by decide +kernel
    refine ⟨_, rfl, _, rfl, d, _, rfl, hd, t, _, rfl, wt, rfl, _, _, rfl, _, _, rfl, _, _, rfl, _, _, rfl, _, _, rfl, _, _, rfl, _, _, rfl, rfl, ?_⟩
    refine ⟨_, rfl, _, _, rfl, rfl, line_ok (by omega), _, _, rfl, rfl, line_ok (by rw [len_app, lit_len1]; omega), _, rfl, _, _, rfl, rfl, line_ok (by simp only [len_app, lit_len1]; omega), by show 1 ≤ sizeLine; decide, fun L nL => ?_⟩
    rw [unit_head']
    generalize hE1 : upd H L _ = H1
    have w1 := new_at hE1
    have s1 := new_same hE1 nL
    refine ⟨by show 4 ≤ sizeLine; decide, fun z1 nz1 => ?_⟩
    generalize hE2 : upd H1 z1 _ = H2
    have wz1 := new_at hE2
    have s2 := new_same hE2 nz1
    refine ⟨_, rfl, _, rfl, _, rfl, _, rfl, by show 4 ≤ sizeLine; decide, fun z2 nz2 => ?_⟩
    generalize hE3 : upd H2 z2 _ = H3
    have wz2 := new_at hE3
    have s3 := new_same hE3 nz2
    have s23 := s2.trans s3
    have s13 := s1.trans s23
    have wL3 := s23 _ _ w1
    have wz13 := s3 _ _ wz1
    have nz1L : z1 ≠ L := fun e => by rw [e, w1] at nz1; cases nz1
    have nz2L : z2 ≠ L := fun e => by rw [e, s2 _ _ w1] at nz2; cases nz2
    have nt3 : NotTp H3 L := .lst wL3
    have quad : ∀ (j : Nat) v v', [V.str (Str.ofString "needs"), .str (Str.ofString "wants"), .str (Str.ofString "bars"), .str (Str.ofString "after")][j]? = some v → [V.ref n, .ref x, .ref b, .ref a][j]? = some v' →
        ∃ (q : Addr) (p : Str × List Str), v = .str p.1 ∧ v' = .ref q ∧ (four u)[j]? = some p ∧ SqT K H3 q (p.2.map V.str) := fun j v v' hv hv' => by
      have j4 : j < 4 := (List.getElem?_eq_some_iff.mp hv).1
      match j, j4, hv, hv' with
      | 0, _, hv, hv' => cases hv; cases hv'; exact ⟨n, _, rfl, rfl, rfl, tup_same s13 wn⟩
      | 1, _, hv, hv' => cases hv; cases hv'; exact ⟨x, _, rfl, rfl, rfl, tup_same s13 wx⟩
      | 2, _, hv, hv' => cases hv; cases hv'; exact ⟨b, _, rfl, rfl, rfl, tup_same s13 wb⟩
      | 3, _, hv, hv' => cases hv; cases hv'; exact ⟨a, _, rfl, rfl, rfl, tup_same s13 wa⟩
    refine ⟨z1, z2, _, _, rfl, SqL.of wz13, SqL.of wz2, ?_⟩
    refine for_it (walk_zip (n := 4) rfl) (fun j σ H' => Kp L H3 H' ∧ H' L = some (.lst ((([Str.ofString "unit", w, u.kind] :: fourRows u j).map rowS).map V.str)) ∧ ∃ y10 y11 : Option V, σ = [some (.str w), some (.ref d), some (.str u.kind), some (.ref n), some (.ref x), some (.ref b), some (.ref a), some (optV u.opens), some g, some (.ref L), y10, y11, none])
      ⟨.refl _ _, wL3, _, _, rfl⟩ (fun j σ H' _ h => ⟨SqL.of (h.1 _ _ wz13 nz1L), SqL.of (h.1 _ _ wz2 nz2L)⟩) ?_ ?_
    · rintro j xv σ H7 H7' hj ⟨k7, w7, y10, y11, rfl⟩ ⟨T2, v, v', rfl, nT, rfl, hv, hv'⟩
      generalize hE8 : upd H7 T2 _ = H8
      have wT := new_at hE8
      have s8 := new_same hE8 nT
      have k8 := k7.same s8
      have w8 := s8 _ _ w7
      obtain ⟨na, pr, rfl, rfl, hpr, hna⟩ := quad j v v' hv hv'
      obtain ⟨l5', l8, l8'⟩ := hT.fourth hpr
      have hna8 := k8.tup (K := K) nt3 hna
      refine ⟨T2, _, rfl, SqT.of wT, rfl, _, _, rfl, _, _, rfl, rfl, ?_⟩
      refine ⟨_, rfl, na, _, rfl, .inr hna8, _, _, rfl, rfl, _, rfl, ?_⟩
      rw [List.length_map]
      by_cases c : pr.2 = []
      · refine iteNd (by rw [c]; decide) ⟨k8, ?_, _, _, rfl⟩
        rw [fourRows_succ hpr]
        unfold rowL
        rw [if_pos c, List.append_nil]
        exact w8
      have c0 : 0 < pr.2.length := List.length_pos_iff.mpr c
      have rl := row_len 8 l8'
      have sm := sum_le 8 pr.2 l8'
      refine iteYd (by omega) ?_
      refine ⟨_, rfl, .inl ⟨rfl, _, SqL.of w8⟩, _, rfl, _, _, rfl, rfl, line_ok (by rw [lit_len1]; omega), ⟨_, rfl⟩, _, rfl, spS, na, pr.2, rfl, rfl, .inr hna8, by rw [lit_len1]; omega, _, _, rfl, rfl, line_ok (by simp only [len_app, lit_len1]; show _ + (rowS pr.2).length ≤ 1000; omega), ?_⟩
      refine ⟨L, _, _, rfl, rfl, w8, by rw [List.length_map, List.length_map, List.length_cons]; exact small1000 (by have := fourRows_len u j; omega), ?_⟩
      refine ⟨k8.trans (mut_keep rfl), ?_, _, _, rfl⟩
      rw [upd_same, fourRows_succ hpr]
      unfold rowL
      rw [if_neg c, ← List.cons_append, List.map_append, List.map_append]
      show some (HO.lst (_ ++ [V.str (pr.1 ++ spS ++ rowS pr.2)])) = _
      rw [← row_cons _ c]
      rfl
    · rintro σ H7 ⟨k7, w7, y10, y11, rfl⟩
      have e4 : fourRows u 4 = rowL (Str.ofString "needs") u.needs ++ rowL (Str.ofString "wants") u.wants ++ rowL (Str.ofString "bars") u.bars ++ rowL (Str.ofString "after") u.after := by
        show [_, _, _, _].flatMap _ = _
        simp only [List.flatMap_cons, List.flatMap_nil, List.append_nil, List.append_assoc]
      refine ⟨fun σ' H' => Kp L H3 H' ∧ H' L = some (.lst ((([Str.ofString "unit", w, u.kind] :: (fourRows u 4 ++ rowO u.opens)).map rowS).map V.str)) ∧ σ' = [some (.str w), some (.ref d), some (.str u.kind), some (.ref n), some (.ref x), some (.ref b), some (.ref a), some (optV u.opens), some g, some (.ref L), y10, y11, none], ?_, ?_⟩
      · refine ⟨_, rfl, rfl, _, rfl, ?_⟩
        cases ho : u.opens with
        | none =>
          refine neF ⟨k7, ?_, rfl⟩
          rw [show rowO none = [] from rfl, List.append_nil]
          exact w7
        | some z =>
          rw [decide_eq_false (show ¬ optV (some z) = V.non from fun z => nomatch z)]
          have lg : z.length ≤ 8 := (hT.named z (by unfold UF.named; rw [ho]; exact List.mem_append_right _ (List.mem_singleton.mpr rfl))).1.2.2
          have l6 : (Str.ofString "opens ").length = 6 := by decide +kernel
          refine iteT ⟨_, rfl, .inl ⟨rfl, _, SqL.of w7⟩, _, rfl, _, _, rfl, rfl, line_ok (by omega), ?_⟩
          refine ⟨L, _, _, rfl, rfl, w7, by rw [List.length_map, List.length_map, List.length_cons]; exact small1000 (by have := fourRows_len u 4; omega), ?_⟩
          refine ⟨k7.trans (mut_keep rfl), ?_, rfl⟩
          rw [upd_same, opens_row', ← List.cons_append, List.map_append, List.map_append]
          rfl
      · rintro σ' H8 ⟨k8, w8, rfl⟩
        refine ⟨fun σ' H' => Kp L H3 H' ∧ H' L = some (.lst (((unitRows w u).map rowS).map V.str)) ∧ ∃ y12 : Option V, σ' = [some (.str w), some (.ref d), some (.str u.kind), some (.ref n), some (.ref x), some (.ref b), some (.ref a), some (optV u.opens), some g, some (.ref L), y10, y11, y12], ?_, ?_⟩
        · refine ⟨_, rfl, rfl, _, rfl, ?_⟩
          cases hv : u.five with
          | none =>
            rw [hv] at hg
            cases (show g = .non from hg)
            refine neF ⟨k8, ?_, _, rfl⟩
            rw [w8]
            unfold unitRows behindRows
            rw [hv, ← e4, show rowF none = [] from rfl, List.append_nil]
          | some v5 =>
            obtain ⟨f, m, tp, br, sn⟩ := v5
            rw [hv] at hg
            obtain ⟨q5, rfl, w5, F⟩ := hg
            have W := Five.wr F
            have nq5 : q5 ≠ L := ne_some w5 nL
            have w58 := k8 _ _ (s13 _ _ w5) nq5
            rw [decide_eq_false (show ¬ V.ref q5 = V.non from fun z => nomatch z)]
            have l5 : (Str.ofString "rule ").length = 5 := by decide +kernel
            have lw8 : ∀ x ∈ words f m tp br sn, x.length ≤ 8 := fun x hx => by
              simp only [List.mem_cons, List.not_mem_nil, or_false] at hx
              rcases hx with rfl | rfl | rfl | rfl | rfl
              · exact Nat.le_trans (nT_len W.f0 W.f1) (by decide)
              · exact Nat.le_trans (nT_len W.m0 W.m1) (by decide)
              · exact Nat.le_trans (nT_len W.t0 W.t1) (by decide)
              · exact Nat.le_trans (nT_len W.b0 W.b1) (by decide)
              · exact Nat.le_trans (nT_len W.s0 W.s1) (by decide)
            have lw5 := row_len (xs := words f m tp br sn) 8 lw8
            have sm5 := sum_le 8 (words f m tp br sn) lw8
            simp only [List.length_cons, List.length_nil] at lw5
            refine iteT ⟨_, rfl, .inl ⟨rfl, _, SqL.of w8⟩, ⟨_, rfl⟩, _, rfl, q5, rfl, ⟨_, SqT.of w58⟩, fun D nD => ?_⟩
            refine lc_tup (xs := [V.int f, .int m, .int tp, .int br, .int sn]) (fun j H' => Same H8 H' ∧ H' D = some (.lst (((words f m tp br sn).take j).map V.str))) ⟨same_upd nD, upd_same⟩ (fun j H' _ h => SqT.of (h.1 _ _ w58)) ?_ ?_
            · rintro j xv H9 hj ⟨s9, w9⟩
              obtain ⟨z, rfl, hz, z0, z1⟩ := five_get2 W hj
              refine ⟨rfl, yes_of (iteT ?_)⟩
              have hjl : j < 5 := (List.getElem?_eq_some_iff.mp hj).1
              refine ⟨_, rfl, z, rfl, nT_log z0 z1, _, w9, ?_, Same.own s9 (mut_keep rfl) nD, ?_⟩
              · rw [List.length_map]
                exact Nat.lt_of_le_of_lt (List.length_take_le ..) (small1000 (by omega))
              · rw [upd_same, take_snoc hz, List.map_append]
                rfl
            · rintro H9 ⟨s9, w9⟩
              have w9' : H9 D = some (.lst ((words f m tp br sn).map V.str)) := w9
              have wL9 := s9 _ _ w8
              refine ⟨spS, D, words f m tp br sn, rfl, rfl, .inl (SqL.of w9'), by rw [lit_len1]; simp only [List.length_cons, List.length_nil] at sm5 ⊢; omega, _, _, rfl, rfl, line_ok (by rw [l5]; show 5 + (rowS (words f m tp br sn)).length ≤ 1000; omega), ?_⟩
              refine ⟨L, _, _, rfl, rfl, wL9, by rw [List.length_map, List.length_map, List.length_cons, List.length_append]; exact small1000 (by have := fourRows_len u 4; have : (rowO u.opens).length ≤ 1 := (by cases u.opens with | none => exact Nat.zero_le _ | some g => exact Nat.le_refl _); omega), ?_⟩
              refine ⟨(k8.same s9).trans (mut_keep rfl), ?_, _, rfl⟩
              rw [upd_same]
              unfold unitRows behindRows
              show some (HO.lst (_ ++ [V.str (Str.ofString "rule " ++ rowS (words f m tp br sn))])) = _
              rw [hv, ← e4, show rowF (some (f, m, tp, br, sn)) = [Str.ofString "rule" :: words f m tp br sn] from rfl, rule_row' _ (List.cons_ne_nil _ _)]
              simp only [List.map_append, List.map_cons, List.map_nil, List.cons_append, List.append_assoc]
        · rintro σ' H9 ⟨k9, w9, y12, rfl⟩
          obtain ⟨r7, r100⟩ := hT.rows
          have sm := sum_le 100 _ r100
          have ln : nlS.length = 1 := by decide +kernel
          exact ⟨⟨_, rfl⟩, _, rfl, nlS, L, _, rfl, rfl, .inl (SqL.of w9), by rw [ln]; exact line16 (by omega), q H9 (Same.own s13 k9 nL)⟩

-- SPLIT
theorem tx_of {w : Str} {u : UF} {ns ss : List Str} {H : Hp} {v : V} (hO : UOk ns ss w u) (hF : FactS K H v u) (hw : Nm w) (hn : ∀ x ∈ ns, Nm x) (hs : ∀ x ∈ ss, Nm x) : Tx w u := by
  constructor
  · exact hw
  · exact hO.kd
  · intro x hx
    obtain ⟨h1, h2⟩ := hO.mem x hx
    exact ⟨h1.elim (hn x) (hs x), h2⟩
  · exact hO.nN
  · exact hO.nW
  · exact hO.nB
  · exact hO.nA
  · exact hO.lN
  · exact hO.lW
  · exact hO.lB
  · exact hO.lA
  · exact hO.op1
  · exact hO.op2
  · intro f m t b s e
    obtain ⟨_, _, _, _, _, g, _, _, _, _, _, _, hg⟩ := hF
    rw [e] at hg
    obtain ⟨_, _, _, F⟩ := hg
    exact F
theorem Tx.str {w : Str} {u : UF} (h : Tx w u) : UStr u := fun x hx => (h.named x (by unfold UF.named; exact List.mem_append_left _ hx)).1.ok
def sp_law_shelf_text (K : PySem.W.Frag) : Sp := fun vs H Q _ => ∃ (d : Addr) (kvs : List (Key × V)) (us : List (Str × UF)), vs = [.ref d] ∧ H d = some (.dK kvs) ∧ FTab K H kvs us ∧ Nms us ∧ (∀ q ∈ us, Tx q.1 q.2) ∧ ∀ H', Same H H' → Q (.str (shelfText us)) H'
theorem ok_law_shelf_text (T : Txt K mg) : FnOk P w K mg base CX0 2 (He.fAd K ("_law_shelf_text", none)) T.d_law_shelf_text ["_law_facts_here"] (sp_law_shelf_text K) := by
  refine T.F_law_shelf_text.ok sc_law_shelf_text (fun vs H Q E h => ?_) (fun cdv A outer s H vs Q E hr h => ?_)
  · obtain ⟨d, kvs, us, rfl, _⟩ := h
    rfl
  · obtain ⟨d, kvs, us, rfl, hd, ht, hN, hT, q⟩ := h
    refine ⟨_, PSs.nox (pss_one (ps_ret (pe_join pe_str (pe_lc (own := [("_law_word", 1)]) (by rfl) sc_law_shelf_text.nd (pi_list (pe_callB (id := "sorted")  (call_sortedD rfl) (by rfl) T.n_sorted (by decide +kernel) (pa_cons (pv 0) pa_nil))) (blkOk_by (own := [("_law_word", 1)]) (N := N_law_shelf_text) (sc := defScope s_law_shelf_text) (by decide +kernel)) (fun _ _ _ _ _ => (pg_name (i := 1) sc_law_shelf_text.nd rfl (Or.inl rfl))) (fun _ _ _ _ _ => pts_nil) (fun _ _ _ _ _ => (pe_call (ok_law_unit_text T) (hr.mono (by decide)) (by rfl) T.m_law_unit_text T.F_law_unit_text.kp T.b_law_unit_text .nil pass0 (pa_cons (pv 1) (pa_cons (pv 0) pa_nil)))))))), ?_⟩
    have few := hN.few
    refine ⟨⟨_, rfl⟩, _, rfl, d, kvs, us.map (·.1), rfl, .inl hd, ht.keys, by rw [List.length_map]; omega, fun ys l perm srtd nl => ?_⟩
    obtain rfl := srt_of perm srtd
    generalize hE1 : upd H l _ = H1
    have wl := new_at hE1
    have s1 := new_same hE1 nl
    refine ⟨l, rfl, ⟨_, SqL.of wl⟩, fun D nD => ?_⟩
    refine lc_list (xs := (srt (us.map (·.1))).map V.str) (fun i H' => Same H1 H' ∧ H' D = some (.lst ((((ordU us).map pT).take i).map V.str))) ⟨same_upd nD, upd_same⟩ (fun i H' _ h => SqL.of (h.1 _ _ wl)) ?_ ?_
    · rintro i x H2 hi ⟨s2, w2⟩
      obtain ⟨o, ho, rfl⟩ := map_str_get hi
      have hom : o ∈ us.map (·.1) := srt_mem.mp (List.mem_of_getElem? ho)
      obtain ⟨u, _, hu⟩ := fu_of hom hN.nd
      obtain ⟨v, hv, hF⟩ := ht.get hN.nd (o, u) hu
      have s12 := s1.trans s2
      have hg : DGet H2 d (.str o) (some v) := by
        rw [← hv]
        exact DGet.k (k := Sum.inr o) (s12 _ _ hd)
      refine ⟨rfl, yes_of (iteT ?_)⟩
      refine ⟨_, rfl, _, rfl, o, d, v, u, rfl, hg, FactS.same hF s12, hT _ hu, fun H3 s3 => ?_⟩
      have one : ((ordU us).map pT)[i]? = some (unitText o u) := by
        unfold ordU
        rw [List.getElem?_map, List.getElem?_map, ho]
        show some (unitText o (gu us o)) = _
        rw [show gu us o = u from gu_of hN.nd hu]
      refine ⟨_, s3 _ _ w2, ?_, Same.own (s2.trans s3) (mut_keep rfl) nD, ?_⟩
      · rw [List.length_map]
        refine Nat.lt_of_le_of_lt (List.length_take_le' ..) (small1000 ?_)
        rw [List.length_map, ordU_len]
        omega
      · rw [upd_same, take_snoc one, List.map_append]
        rfl
    · rintro H2 ⟨s2, w2⟩
      rw [show ((srt (us.map (·.1))).map V.str).length = ((ordU us).map pT).length by rw [List.length_map, List.length_map, ordU_len, srt_len, List.length_map], List.take_length] at w2
      have l2 : nnS.length = 2 := by decide +kernel
      have sm := sum_le 800 ((ordU us).map pT) fun x hx => by
        obtain ⟨r, hr, rfl⟩ := List.mem_map.mp hx
        exact (hT r (ordU_mem hN.nd hr)).len
      rw [List.length_map, ordU_len] at sm
      refine ⟨nnS, D, _, rfl, rfl, .inl (SqL.of w2), ?_, q H2 (s1.trans s2)⟩
      rw [l2, List.length_map, ordU_len]
      omega

-- SPLIT
/-! ### what follows at once -/
abbrev onS : Str := Str.ofString "on"
abbrev offS : Str := Str.ofString "off"
theorem ok_off : PyData.strOk offS = true := by decide +kernel
theorem ok_on : PyData.strOk onS = true := by decide +kernel
def needB (us : List (Str × UF)) (w o : Str) : Bool := match fu us o with
  | some v => decide (w ∈ v.needs)
  | none => false
def barB (us : List (Str × UF)) (w o : Str) : Bool := match fu us w, fu us o with
  | some u, some v => decide (o ∈ u.bars) || decide (w ∈ v.bars)
  | _, _ => false
def nd (us : List (Str × UF)) (w : Str) : List Str := (srt (us.map (·.1))).filter (needB us w)
def br (us : List (Str × UF)) (w : Str) : List Str := (srt (us.map (·.1))).filter (barB us w)
def ned (us : List (Str × UF)) (w : Str) : List Str := match fu us w with
  | some u => u.needs.filter fun x => decide (x ∈ us.map (·.1))
  | none => []
def ao (us : List (Str × UF)) (d : Str × Str) : List (Str × Str) :=
  if d.2 = offS then (nd us d.1).map (·, offS) else srtP ((ned us d.1).map (·, onS) ++ (br us d.1).map (·, offS))
theorem filt_len {us : List (Str × UF)} (h : Nms us) (f : Str → Bool) : ((srt (us.map (·.1))).filter f).length ≤ 16 := by
  refine Nat.le_trans (List.length_filter_le _ _) ?_
  rw [srt_len]
  exact h.len
def sp_Shelf_needing (K : PySem.W.Frag) : Sp := fun vs H Q _ => ∃ (p : Addr) (w : Str) (us : List (Str × UF)), vs = [.ref p, .str w] ∧ ShelfAt K H p us ∧ Nms us ∧ w ∈ us.map (·.1) ∧
  ∀ l H', H l = none → Same H H' → H' l = some (.lst ((nd us w).map V.str)) → Q (.ref l) H'
theorem ok_Shelf_needing (T : Txt K mg) : FnOk P w K mg base CX0 3 (He.fAd K ("Shelf", some "needing")) T.d_Shelf_needing ["self", "name"] (sp_Shelf_needing K) := by
  refine T.F_Shelf_needing.ok sc_Shelf_needing (fun vs H Q E h => ?_) (fun cdv A outer s H vs Q E hr h => ?_)
  · obtain ⟨p, w, us, rfl, _⟩ := h
    rfl
  · obtain ⟨p, w, us, rfl, hS, hN, hw, q⟩ := h
    refine ⟨_, PSs.nox (pss_cons (ps_expr (pe_meth (pv 0) T.cl_Shelf T.me_Shelf_unit (ok_Shelf_unit T) (hr.mono (by decide)) T.b_Shelf_unit .nil pass0 (pa_cons (pv 1) pa_nil)))
      (pss_one (ps_ret (pe_lc (own := [("other", 2)]) (by rfl) sc_Shelf_needing.nd (pi_list (pe_meth0 (pv 0) T.cl_Shelf T.me_Shelf_names (ok_Shelf_names T) (hr.mono (by decide)) T.b_Shelf_names .nil pass0)) (blkOk_by (own := [("other", 2)]) (N := N_Shelf_needing) (sc := defScope s_Shelf_needing) (by decide +kernel)) (fun _ _ _ _ _ => (pg_name (i := 2) sc_Shelf_needing.nd rfl (Or.inl rfl))) (fun _ _ _ _ _ => by exact (pts_one (pt_cmpR (r := rIn K false) op_in_seq (pv 1) (UP.pe_fldK (K := K) (by rfl) (pe_dget (hu_of hr) (UP.pe_fldK (K := K) (by rfl) (pv 0) (by rfl)) (pv 2) (fun _ _ => rfl)) (by rfl)) (by rfl)))) (fun _ _ _ _ _ => (pv 2)))))), ?_⟩
    obtain ⟨dx, d, kvs, hp, hd, ht⟩ := id hS
    refine ⟨_, rfl, p, dx, _, rfl, hp, rfl, _, rfl, p, w, us, rfl, hS, hN, hw, fun a u hu hA => ?_⟩
    refine ⟨_, rfl, p, dx, _, rfl, hp, rfl, p, us, rfl, hS, hN, fun l H1 nl s1 wl => ?_⟩
    refine ⟨l, rfl, ⟨_, SqL.of wl⟩, fun D nD => ?_⟩
    refine lc_list (xs := (srt (us.map (·.1))).map V.str) (fun i H' => Same H1 H' ∧ H' D = some (.lst ((((srt (us.map (·.1))).take i).filter (needB us w)).map V.str))) ⟨same_upd nD, upd_same⟩ (fun i H' _ h => SqL.of (h.1 _ _ wl)) ?_ ?_
    · rintro i x H2 hi ⟨s2, w2⟩
      obtain ⟨o, ho, rfl⟩ := map_str_get hi
      have hom : o ∈ us.map (·.1) := srt_mem.mp (List.mem_of_getElem? ho)
      obtain ⟨v, hfo, hv⟩ := fu_of hom hN.nd
      have wb : needB us w o = decide (w ∈ v.needs) := by
        unfold needB
        rw [hfo]
      have s12 := s1.trans s2
      obtain ⟨ov, hov, b, rfl, hB⟩ := ht.get hN.nd (o, v) hv
      obtain ⟨dxv, m1, m2, m3, m4, r2, hb, hm1, _⟩ := id hB
      refine ⟨rfl, _, rfl, _, rfl, p, _, dx, _, _, rfl, s12 _ _ hp, T.cl_Shelf, T.na_Shelf_by_name, rfl, _, rfl, d, .ref b, rfl, by rw [← hov]; exact DGet.k (k := Sum.inr o) (s12 _ _ hd), b, _, dxv, _, _, rfl, s12 _ _ hb, T.cl_Unit, T.na_Unit_needs, rfl, m1, _, rfl, .inr (tup_same s12 hm1), rfl, strs_flat _, _, rfl, ?_⟩
      rw [inV_str, take_filter_snoc _ ho, wb]
      by_cases c : w ∈ v.needs
      · rw [decide_eq_true c]
        refine iteT ⟨_, rfl, _, w2, ?_, Same.own (q := D) s2 (mut_keep rfl) nD, ?_⟩
        · rw [List.length_map]
          refine Nat.lt_of_le_of_lt (List.length_filter_le _ _) (Nat.lt_of_le_of_lt (List.length_take_le' ..) (small1000 ?_))
          rw [srt_len]
          have := hN.len
          omega
        · rw [upd_same, if_pos rfl, List.map_append]
          rfl
      · rw [decide_eq_false c]
        refine iteF ⟨s2, ?_⟩
        rw [if_neg Bool.false_ne_true, List.append_nil]
        exact w2
    · rintro H2 ⟨s2, w2⟩
      rw [List.length_map, List.take_length] at w2
      exact q D H2 (s1.free nD) (s1.trans s2) w2
def sp_Shelf_barred (K : PySem.W.Frag) : Sp := fun vs H Q _ => ∃ (p : Addr) (w : Str) (us : List (Str × UF)), vs = [.ref p, .str w] ∧ ShelfAt K H p us ∧ Nms us ∧ w ∈ us.map (·.1) ∧
  ∀ l H', H l = none → Same H H' → H' l = some (.lst ((br us w).map V.str)) → Q (.ref l) H'
theorem ok_Shelf_barred (T : Txt K mg) : FnOk P w K mg base CX0 3 (He.fAd K ("Shelf", some "barred")) T.d_Shelf_barred ["self", "name"] (sp_Shelf_barred K) := by
  refine T.F_Shelf_barred.ok sc_Shelf_barred (fun vs H Q E h => ?_) (fun cdv A outer s H vs Q E hr h => ?_)
  · obtain ⟨p, w, us, rfl, _⟩ := h
    rfl
  · obtain ⟨p, w, us, rfl, hS, hN, hw, q⟩ := h
    refine ⟨_, PSs.nox (pss_cons (ps_set (i := 2) sc_Shelf_barred.nd rfl (Or.inr rfl) (pe_fld (pe_meth (pv 0) T.cl_Shelf T.me_Shelf_unit (ok_Shelf_unit T) (hr.mono (by decide)) T.b_Shelf_unit .nil pass0 (pa_cons (pv 1) pa_nil)) rfl))
      (pss_one (ps_ret (pe_lc (own := [("other", 3)]) (by rfl) sc_Shelf_barred.nd (pi_list (pe_meth0 (pv 0) T.cl_Shelf T.me_Shelf_names (ok_Shelf_names T) (hr.mono (by decide)) T.b_Shelf_names .nil pass0)) (blkOk_by (own := [("other", 3)]) (N := N_Shelf_barred) (sc := defScope s_Shelf_barred) (by decide +kernel)) (fun _ _ _ _ _ => (pg_name (i := 3) sc_Shelf_barred.nd rfl (Or.inl rfl))) (fun _ _ _ _ _ => by exact (pts_one (PW.pt (pw_or (pt_cmpR (r := rIn K false) op_in_seq (pv 3) (pv 2) (by rfl)) (pw_or1 (pt_cmpR (r := rIn K false) op_in_seq (pv 1) (UP.pe_fldK (K := K) (by rfl) (pe_dget (hu_of hr) (UP.pe_fldK (K := K) (by rfl) (pv 0) (by rfl)) (pv 3) (fun _ _ => rfl)) (by rfl)) (by rfl))))))) (fun _ _ _ _ _ => (pv 3)))))), ?_⟩
    obtain ⟨dx, d, kvs, hp, hd, ht⟩ := id hS
    refine ⟨_, rfl, p, dx, _, rfl, hp, rfl, _, rfl, p, w, us, rfl, hS, hN, hw, fun a u hu hA => ?_⟩
    have hfu : fu us w = some u := fu_some hN.nd hu
    obtain ⟨dxu, n1, n2, n3, n4, r, ha, hn1, hn2, hn3, hn4, _⟩ := id hA
    refine ⟨a, _, dxu, _, _, rfl, ha, T.cl_Unit, T.na_Unit_bars, rfl, ?_⟩
    refine ⟨_, rfl, p, dx, _, rfl, hp, rfl, p, us, rfl, hS, hN, fun l H1 nl s1 wl => ?_⟩
    refine ⟨l, rfl, ⟨_, SqL.of wl⟩, fun D nD => ?_⟩
    refine lc_list (xs := (srt (us.map (·.1))).map V.str) (fun i H' => Same H1 H' ∧ H' D = some (.lst ((((srt (us.map (·.1))).take i).filter (barB us w)).map V.str))) ⟨same_upd nD, upd_same⟩ (fun i H' _ h => SqL.of (h.1 _ _ wl)) ?_ ?_
    · rintro i x H2 hi ⟨s2, w2⟩
      obtain ⟨o, ho, rfl⟩ := map_str_get hi
      have hom : o ∈ us.map (·.1) := srt_mem.mp (List.mem_of_getElem? ho)
      obtain ⟨v, hfo, hv⟩ := fu_of hom hN.nd
      have wb : barB us w o = (decide (o ∈ u.bars) || decide (w ∈ v.bars)) := by
        unfold barB
        rw [hfu, hfo]
      have s12 := s1.trans s2
      have hlen : ((((srt (us.map (·.1))).take i).filter (barB us w)).map V.str).length < sizeLine := by
        rw [List.length_map]
        refine Nat.lt_of_le_of_lt (List.length_filter_le _ _) (Nat.lt_of_le_of_lt (List.length_take_le' ..) (small1000 ?_))
        rw [srt_len]
        have := hN.len
        omega
      have yes : barB us w o = true → Same H1 (upd H2 D (.lst (((((srt (us.map (·.1))).take i).filter (barB us w)).map V.str) ++ [.str o]))) ∧ (upd H2 D (.lst (((((srt (us.map (·.1))).take i).filter (barB us w)).map V.str) ++ [.str o]))) D = some (.lst ((((srt (us.map (·.1))).take (i + 1)).filter (barB us w)).map V.str)) := fun c => by
        refine ⟨Same.own (q := D) s2 (mut_keep rfl) nD, ?_⟩
        rw [upd_same, take_filter_snoc _ ho, if_pos c, List.map_append]
        rfl
      refine ⟨rfl, _, rfl, _, rfl, n3, _, rfl, .inr (tup_same s12 hn3), rfl, strs_flat _, _, rfl, ?_⟩
      rw [inV_str]
      by_cases c1 : o ∈ u.bars
      · rw [decide_eq_true c1] at wb ⊢
        exact iteT (iteT ⟨_, rfl, _, w2, hlen, yes (by rw [wb]; rfl)⟩)
      rw [decide_eq_false c1] at wb ⊢
      obtain ⟨ov, hov, b, rfl, hB⟩ := ht.get hN.nd (o, v) hv
      obtain ⟨dxv, m1, m2, m3, m4, r2, hb, hm1, hm2, hm3, _⟩ := id hB
      refine iteF ⟨_, rfl, _, rfl, p, _, dx, _, _, rfl, s12 _ _ hp, T.cl_Shelf, T.na_Shelf_by_name, rfl, _, rfl, d, .ref b, rfl, by rw [← hov]; exact DGet.k (k := Sum.inr o) (s12 _ _ hd), b, _, dxv, _, _, rfl, s12 _ _ hb, T.cl_Unit, T.na_Unit_bars, rfl, m3, _, rfl, .inr (tup_same s12 hm3), rfl, strs_flat _, _, rfl, ?_⟩
      rw [inV_str]
      by_cases c3 : w ∈ v.bars
      · rw [decide_eq_true c3] at wb ⊢
        exact iteT ⟨_, rfl, _, w2, hlen, yes (by rw [wb]; rfl)⟩
      · rw [decide_eq_false c3] at wb ⊢
        refine iteF ⟨s2, ?_⟩
        rw [take_filter_snoc _ ho, if_neg (by rw [wb]; exact Bool.false_ne_true), List.append_nil]
        exact w2
    · rintro H2 ⟨s2, w2⟩
      rw [List.length_map, List.take_length] at w2
      exact q D H2 (s1.free nD) (s1.trans s2) w2
/-- one pair more -/
theorem pair_put {H1 H2 : Hp} {D t : Addr} {xs : List V} {ds : List (Str × Str)} {a b : Str} (s : Same H1 H2) (nD : H1 D = none) (w : H2 D = some (.lst xs)) (p : PrH H2 xs ds) (n : H2 t = none) :
    Same H1 (upd (upd H2 t (.tup [.str a, .str b])) D (.lst (xs ++ [.ref t]))) ∧ ∃ ys, (upd (upd H2 t (.tup [.str a, .str b])) D (.lst (xs ++ [.ref t]))) D = some (.lst ys) ∧ PrH (upd (upd H2 t (.tup [.str a, .str b])) D (.lst (xs ++ [.ref t]))) ys (ds ++ [(a, b)]) := by
  have st : Same H2 (upd H2 t (.tup [.str a, .str b])) := same_upd n
  have wD := st _ _ w
  have m : Kp D (upd H2 t (.tup [.str a, .str b])) (upd (upd H2 t (.tup [.str a, .str b])) D (.lst (xs ++ [.ref t]))) := mut_keep rfl
  refine ⟨Same.own (s.trans st) m nD, _, upd_same, ((p.same st).keep m (.lst wD)).app (.cons (d := (a, b)) (m _ _ upd_same (ne_some w n).symm) .nil)⟩
def sp_at_once (K : PySem.W.Frag) : Sp := fun vs H Q _ => ∃ (p t : Addr) (us : List (Str × UF)) (d : Str × Str), vs = [.ref p, .ref t] ∧ ShelfAt K H p us ∧ Nms us ∧ (∀ p ∈ us, p.2.needs.length ≤ 100) ∧ SqT K H t [.str d.1, .str d.2] ∧ d.1 ∈ us.map (·.1) ∧
  ∀ l xs H', H l = none → Same H H' → H' l = some (.lst xs) → PrH H' xs (ao us d) → Q (.ref l) H'
theorem ok_at_once (T : Txt K mg) : FnOk P w K mg base CX0 4 (He.fAd K ("at_once", none)) T.d_at_once ["shelf", "demand"] (sp_at_once K) := by
  refine T.F_at_once.ok sc_at_once (fun vs H Q E h => ?_) (fun cdv A outer s H vs Q E hr h => ?_)
  · obtain ⟨p, t, us, d, rfl, _⟩ := h
    rfl
  · obtain ⟨p, t, us, d, rfl, hS, hN, hF, ht, hd, q⟩ := h
    refine ⟨_, PSs.nox (pss_cons (ps_asg (pv 1) (pg_tup rfl (pgs_cons (pg_name (i := 2) sc_at_once.nd rfl (Or.inl rfl)) (pgs_cons (pg_name (i := 3) sc_at_once.nd rfl (Or.inl rfl)) pgs_nil))))
      (pss_cons (ps_if (pt_cmpR op_eq (pv 3) pe_str (nomark _))
      (pss_one (ps_ret (pe_lc (own := [("other", 6)]) (by rfl) sc_at_once.nd (pi_list (pe_meth (pv 0) T.cl_Shelf T.me_Shelf_needing (ok_Shelf_needing T) (hr.mono (by decide)) T.b_Shelf_needing .nil pass0 (pa_cons (pv 2) pa_nil))) (blkOk_by (own := [("other", 6)]) (N := N_at_once) (sc := defScope s_at_once) (by decide +kernel)) (fun _ _ _ _ _ => (pg_name (i := 6) sc_at_once.nd rfl (Or.inl rfl))) (fun _ _ _ _ _ => pts_nil) (fun _ _ _ _ _ => (pe_tup (pa_cons (pv 6) (pa_cons pe_str pa_nil)))))))
      pss_nil)
      (pss_cons (ps_setLc (i := 4) (own := [("other", 6)]) (by rfl) sc_at_once.nd rfl rfl (sw_true rfl rfl rfl (by decide +kernel)) (pi_tup (pe_fld (pe_meth (pv 0) T.cl_Shelf T.me_Shelf_unit (ok_Shelf_unit T) (hr.mono (by decide)) T.b_Shelf_unit .nil pass0 (pa_cons (pv 2) pa_nil)) rfl)) (blkOk_by (own := [("other", 6)]) (N := N_at_once) (sc := defScope s_at_once) (by decide +kernel)) (fun _ _ _ _ _ => (pg_name (i := 6) sc_at_once.nd rfl (Or.inl rfl))) (fun _ _ _ _ _ => by exact (pts_one (pt_val (pe_meth (pv 0) T.cl_Shelf T.me_Shelf_has (ok_Shelf_has T) (hr.mono (by decide)) T.b_Shelf_has .nil pass0 (pa_cons (pv 6) pa_nil))))) (fun _ _ _ _ _ => (pe_tup (pa_cons (pv 6) (pa_cons pe_str pa_nil)))))
      (pss_cons (ps_setLc (i := 5) (own := [("other", 6)]) (by rfl) sc_at_once.nd rfl rfl (sw_true rfl rfl rfl (by decide +kernel)) (pi_list (pe_meth (pv 0) T.cl_Shelf T.me_Shelf_barred (ok_Shelf_barred T) (hr.mono (by decide)) T.b_Shelf_barred .nil pass0 (pa_cons (pv 2) pa_nil))) (blkOk_by (own := [("other", 6)]) (N := N_at_once) (sc := defScope s_at_once) (by decide +kernel)) (fun _ _ _ _ _ => (pg_name (i := 6) sc_at_once.nd rfl (Or.inl rfl))) (fun _ _ _ _ _ => pts_nil) (fun _ _ _ _ _ => (pe_tup (pa_cons (pv 6) (pa_cons pe_str pa_nil)))))
      (pss_one (ps_ret (pe_callB (id := "sorted")  (UD.cr_sortP hr.units) (by rfl) T.n_sorted (by decide +kernel) (pa_cons (pe_op op_cat (pv 4) (pv 5)) pa_nil)))))))), ?_⟩
    refine ⟨_, rfl, t, _, rfl, ht, rfl, _, _, rfl, _, _, rfl, rfl, ?_⟩
    obtain ⟨dx, dd, kvs, hp, _⟩ := id hS
    refine ⟨_, rfl, rfl, _, rfl, ?_⟩
    by_cases c : d.2 = offS
    · rw [show decide (V.str d.2 = V.str offS) = true from decide_eq_true (by rw [c])]
      refine iteT ?_
      refine ⟨_, rfl, p, dx, _, rfl, hp, rfl, _, rfl, p, _, us, rfl, hS, hN, hd, fun l H1 nl s1 wl => ?_⟩
      refine ⟨l, rfl, ⟨_, SqL.of wl⟩, fun D nD => ?_⟩
      refine lc_list (xs := (nd us d.1).map V.str) (fun i H' => Same H1 H' ∧ ∃ xs, H' D = some (.lst xs) ∧ PrH H' xs (((nd us d.1).take i).map (·, offS))) ⟨same_upd nD, [], upd_same, .nil⟩ (fun i H' _ h => SqL.of (h.1 _ _ wl)) ?_ ?_
      · rintro i x H2 hi ⟨s2, xs, w2, p2⟩
        obtain ⟨o, ho, rfl⟩ := map_str_get hi
        refine ⟨rfl, yes_of (iteT ⟨_, rfl, by show 2 ≤ sizeLine; decide, fun t2 n2 => ⟨xs, same_upd n2 _ _ w2, ?_, ?_⟩⟩)⟩
        · rw [p2.len, List.length_map]
          exact Nat.lt_of_le_of_lt (List.length_take_le' ..) (Nat.lt_of_le_of_lt (filt_len hN _) (small1000 (by decide)))
        · rw [take_snoc ho, List.map_append]
          exact pair_put s2 nD w2 p2 n2
      · rintro H2 ⟨s2, xs, w2, p2⟩
        rw [List.length_map, List.take_length] at p2
        refine q D xs H2 (s1.free nD) (s1.trans s2) w2 ?_
        unfold ao
        rw [if_pos c]
        exact p2
    · rw [show decide (V.str d.2 = V.str offS) = false from decide_eq_false fun z => c (by injection z)]
      refine iteF ?_
      obtain ⟨u, hfu, hu⟩ := fu_of hd hN.nd
      have hned : ned us d.1 = u.needs.filter fun x => decide (x ∈ us.map (·.1)) := by
        unfold ned
        rw [hfu]
      -- needed
      refine ⟨_, rfl, p, dx, _, rfl, hp, rfl, _, rfl, p, _, us, rfl, hS, hN, hd, fun a u' hu' hA => ?_⟩
      obtain rfl : u' = u := Option.some.inj ((fu_some hN.nd hu').symm.trans hfu)
      obtain ⟨dxu, n1, n2, n3, n4, r, ha, hn1, _⟩ := id hA
      have hnl : u'.needs.length ≤ 100 := hF _ hu
      refine ⟨a, _, dxu, _, _, rfl, ha, T.cl_Unit, T.na_Unit_needs, rfl, n1, rfl, ⟨_, hn1⟩, fun D nD => ?_⟩
      refine lc_tup (xs := u'.needs.map V.str) (fun i H' => Same H H' ∧ ∃ xs, H' D = some (.lst xs) ∧ PrH H' xs (((u'.needs.take i).filter fun x => decide (x ∈ us.map (·.1))).map (·, onS))) ⟨same_upd nD, [], upd_same, .nil⟩ (fun i H' _ h => tup_same h.1 hn1) ?_ ?_
      · rintro i x H2 hi ⟨s2, xs, w2, p2⟩
        obtain ⟨o, ho, rfl⟩ := map_str_get hi
        have hp2 := s2 _ _ hp
        refine ⟨rfl, _, rfl, p, dx, _, rfl, hp2, rfl, _, rfl, p, o, us, rfl, hS.same s2, hN, _, rfl, ?_⟩
        rw [take_filter_snoc _ ho]
        by_cases c2 : o ∈ us.map (·.1)
        · rw [decide_eq_true c2]
          refine iteT ⟨_, rfl, by show 2 ≤ sizeLine; decide, fun t2 n2 => ⟨xs, same_upd n2 _ _ w2, ?_, ?_⟩⟩
          · rw [p2.len, List.length_map]
            exact Nat.lt_of_le_of_lt (List.length_filter_le _ _) (Nat.lt_of_le_of_lt (List.length_take_le' ..) (small1000 (by omega)))
          · rw [if_pos rfl, List.map_append]
            exact pair_put s2 nD w2 p2 n2
        · rw [decide_eq_false c2]
          refine iteF ⟨s2, xs, w2, ?_⟩
          rw [if_neg Bool.false_ne_true, List.append_nil]
          exact p2
      rintro H2 ⟨s2, xs, w2, p2⟩
      rw [List.length_map, List.take_length, ← hned] at p2
      -- barred
      have hp2 := s2 _ _ hp
      have hS2 := hS.same s2
      refine ⟨_, rfl, p, dx, _, rfl, hp2, rfl, _, rfl, p, _, us, rfl, hS2, hN, hd, fun l H3 nl s3 wl => ?_⟩
      refine ⟨l, rfl, ⟨_, SqL.of wl⟩, fun D2 nD2 => ?_⟩
      refine lc_list (xs := (br us d.1).map V.str) (fun i H' => Same H3 H' ∧ ∃ xs, H' D2 = some (.lst xs) ∧ PrH H' xs (((br us d.1).take i).map (·, offS))) ⟨same_upd nD2, [], upd_same, .nil⟩ (fun i H' _ h => SqL.of (h.1 _ _ wl)) ?_ ?_
      · rintro i x H4 hi ⟨s4, ys, w4, p4⟩
        obtain ⟨o, ho, rfl⟩ := map_str_get hi
        refine ⟨rfl, yes_of (iteT ⟨_, rfl, by show 2 ≤ sizeLine; decide, fun t2 n2 => ⟨ys, same_upd n2 _ _ w4, ?_, ?_⟩⟩)⟩
        · rw [p4.len, List.length_map]
          exact Nat.lt_of_le_of_lt (List.length_take_le' ..) (Nat.lt_of_le_of_lt (filt_len hN _) (small1000 (by decide)))
        · rw [take_snoc ho, List.map_append]
          exact pair_put s4 nD2 w4 p4 n2
      rintro H4 ⟨s4, ys, w4, p4⟩
      rw [List.length_map, List.take_length] at p4
      have s34 := s3.trans s4
      have l1 : (ned us d.1).length ≤ 100 := by
        rw [hned]
        exact Nat.le_trans (List.length_filter_le _ _) hnl
      have l2 : (br us d.1).length ≤ 16 := filt_len hN _
      -- sorted(needed + barred)
      refine ⟨_, rfl, _, rfl, D, D2, xs, ys, rfl, rfl, s34 _ _ w2, w4, by rw [p2.len, p4.len, List.length_map, List.length_map]; exact Nat.le_of_lt (small1000 (by omega)), fun D3 nD3 => ?_⟩
      generalize hE5 : upd H4 D3 _ = H5
      have w5 := new_at hE5
      have s5 := new_same hE5 nD3
      refine ⟨D3, _, _, rfl, SqL.of w5, ((p2.same s34).same s5).app (p4.same s5), by rw [List.length_append, List.length_map, List.length_map]; omega, fun D4 zs nD4 pz => ?_⟩
      have s6 : Same H5 (upd H5 D4 (.lst zs)) := same_upd nD4
      have sA := ((s2.trans s34).trans s5)
      refine q D4 zs _ (sA.free nD4) (sA.trans s6) upd_same ?_
      unfold ao
      rw [if_neg c]
      exact pz.same s6

-- SPLIT
/-! ### demands of a shelf -/
def WD (us : List (Str × UF)) (d : Str × Str) : Prop := d.1 ∈ us.map (·.1) ∧ (d.2 = onS ∨ d.2 = offS)
theorem ao_wd {us : List (Str × UF)} {a b : Str × Str} (h : b ∈ ao us a) : WD us b := by
  unfold ao at h
  by_cases c : a.2 = offS
  · rw [if_pos c] at h
    obtain ⟨o, ho, rfl⟩ := List.mem_map.mp h
    exact ⟨srt_mem.mp (List.mem_filter.mp ho).1, .inr rfl⟩
  · rw [if_neg c] at h
    rcases List.mem_append.mp (srtP_mem.mp h) with h | h
    · obtain ⟨o, ho, rfl⟩ := List.mem_map.mp h
      refine ⟨?_, .inl rfl⟩
      unfold ned at ho
      split at ho
      · exact of_decide_eq_true (List.mem_filter.mp ho).2
      · cases ho
    · obtain ⟨o, ho, rfl⟩ := List.mem_map.mp h
      exact ⟨srt_mem.mp (List.mem_filter.mp ho).1, .inr rfl⟩
theorem wd_few {us : List (Str × UF)} (hN : Nms us) {es : List (Str × Str)} (hn : es.Nodup) (h : ∀ d ∈ es, WD us d) : es.length ≤ 32 := by
  have := nodup_le es ((us.map (·.1)).map (·, onS) ++ (us.map (·.1)).map (·, offS)) hn fun d hd => by
    obtain ⟨h1, h2⟩ := h d hd
    rcases h2 with e | e
    · exact List.mem_append_left _ (List.mem_map.mpr ⟨d.1, h1, by rw [← e]⟩)
    · exact List.mem_append_right _ (List.mem_map.mpr ⟨d.1, h1, by rw [← e]⟩)
  rw [List.length_append, List.length_map, List.length_map (f := (·, offS))] at this
  have := hN.len
  omega

/-! ### how near a demand is -/
inductive Near (us : List (Str × UF)) (ds : List (Str × Str)) : Nat → Str × Str → Prop
  | base {d : Str × Str} (h : d ∈ ds) : Near us ds 0 d
  | step {n : Nat} {a b : Str × Str} (h : Near us ds n a) (g : b ∈ ao us a) : Near us ds (n + 1) b
/-- by just so many links, not by fewer -/
def Lv (us : List (Str × UF)) (ds : List (Str × Str)) (n : Nat) (d : Str × Str) : Prop := Near us ds n d ∧ ∀ m, m < n → ¬ Near us ds m d
section
variable {us : List (Str × UF)} {ds : List (Str × Str)}
theorem Lv.uniq {n m : Nat} {d : Str × Str} (h : Lv us ds n d) (g : Lv us ds m d) : n = m := by
  rcases Nat.lt_trichotomy n m with c | c | c
  · exact absurd h.1 (g.2 n c)
  · exact c
  · exact absurd g.1 (h.2 m c)
theorem near_lv : ∀ {n : Nat} {d : Str × Str}, Near us ds n d → ∃ m, m ≤ n ∧ Lv us ds m d := by
  intro n
  induction n using Nat.strongRecOn with
  | ind n ih =>
    intro d h
    by_cases c : ∃ m, m < n ∧ Near us ds m d
    · obtain ⟨m, hm, hd⟩ := c
      obtain ⟨k, hk, hl⟩ := ih m hm hd
      exact ⟨k, by omega, hl⟩
    · exact ⟨n, Nat.le_refl _, h, fun m hm hd => c ⟨m, hm, hd⟩⟩
theorem lv_step {n : Nat} {b : Str × Str} (h : Lv us ds (n + 1) b) : ∃ a, Lv us ds n a ∧ b ∈ ao us a := by
  obtain ⟨h1, h2⟩ := h
  cases h1 with
  | step ha g => exact ⟨_, ⟨ha, fun m hm hd => h2 (m + 1) (by omega) (.step hd g)⟩, g⟩
theorem lv_down {i m : Nat} {d : Str × Str} (h : Lv us ds m d) (hi : i ≤ m) : ∃ a, Lv us ds i a := by
  obtain ⟨k, rfl⟩ := Nat.exists_eq_add_of_le hi
  induction k generalizing d with
  | zero => exact ⟨d, h⟩
  | succ k ih =>
    obtain ⟨a, ha, _⟩ := lv_step (n := i + k) h
    exact ih ha (by omega)
theorem lv0 {d : Str × Str} : Lv us ds 0 d ↔ d ∈ ds := by
  refine ⟨fun h => ?_, fun h => ⟨.base h, fun m hm => absurd hm (Nat.not_lt_zero m)⟩⟩
  obtain ⟨h, _⟩ := h
  cases h with
  | base h => exact h
theorem near_wd {n : Nat} {d : Str × Str} (hd : ∀ d ∈ ds, WD us d) (h : Near us ds n d) : WD us d := by
  cases h with
  | base h => exact hd d h
  | step _ g => exact ao_wd g
/-- a new one behind those found so far -/
theorem lv_new {i : Nat} {es : List (Str × Str)} {a b : Str × Str} (he : ∀ d, d ∈ es ↔ ∃ m, m ≤ i ∧ Lv us ds m d) (ha : Lv us ds i a) (g : b ∈ ao us a) (hb : b ∉ es) : Lv us ds (i + 1) b := by
  refine ⟨.step ha.1 g, fun m hm hn => ?_⟩
  obtain ⟨k, hk, hl⟩ := near_lv hn
  exact hb ((he b).mpr ⟨k, by omega, hl⟩)
theorem lv_round {i : Nat} {es fs rs : List (Str × Str)} (he : ∀ d, d ∈ es ↔ ∃ m, m ≤ i ∧ Lv us ds m d) (hf : ∀ d, d ∈ fs ↔ Lv us ds i d) (hr : ∀ d ∈ rs, Lv us ds (i + 1) d) (hc : ∀ a ∈ fs, ∀ b ∈ ao us a, b ∈ es ++ rs) :
    (∀ d, d ∈ es ++ rs ↔ ∃ m, m ≤ i + 1 ∧ Lv us ds m d) ∧ ∀ d, d ∈ rs ↔ Lv us ds (i + 1) d := by
  have h1 : ∀ d, Lv us ds (i + 1) d → d ∈ es ++ rs := fun d hd => by
    obtain ⟨a, ha, g⟩ := lv_step hd
    exact hc a ((hf a).mpr ha) d g
  refine ⟨fun d => ⟨fun hd => ?_, ?_⟩, fun d => ⟨hr d, fun hd => ?_⟩⟩
  · rcases List.mem_append.mp hd with hd | hd
    · obtain ⟨m, hm, hl⟩ := (he d).mp hd
      exact ⟨m, by omega, hl⟩
    · exact ⟨i + 1, Nat.le_refl _, hr d hd⟩
  · rintro ⟨m, hm, hl⟩
    rcases Nat.lt_or_ge i m with c | c
    · obtain rfl : m = i + 1 := by omega
      exact h1 d hl
    · exact List.mem_append_left _ ((he d).mpr ⟨m, c, hl⟩)
  · rcases List.mem_append.mp (h1 d hd) with c | c
    · obtain ⟨m, hm, hl⟩ := (he d).mp c
      have := hl.uniq hd
      omega
    · exact c
theorem lv_all {i : Nat} {es : List (Str × Str)} (he : ∀ d, d ∈ es ↔ ∃ m, m ≤ i ∧ Lv us ds m d) (hf : ∀ d, ¬ Lv us ds i d) (d : Str × Str) : d ∈ es ↔ ∃ m, Lv us ds m d := by
  rw [he]
  refine ⟨fun ⟨m, _, h⟩ => ⟨m, h⟩, fun ⟨m, h⟩ => ⟨m, ?_, h⟩⟩
  rcases Nat.lt_or_ge m i with c | c
  · omega
  · obtain ⟨a, ha⟩ := lv_down h c
    exact absurd ha (hf a)
end
/-- what a demand is there by -/
def Par (H : Hp) (us : List (Str × UF)) (ds : List (Str × Str)) (d : Str × Str) (v : V) : Prop :=
  (Lv us ds 0 d ∧ v = .non) ∨ ∃ n t a, Lv us ds (n + 1) d ∧ v = .ref t ∧ H t = some (.tup [.str a.1, .str a.2]) ∧ Lv us ds n a ∧ d ∈ ao us a
/-- by each that was found what it is there by -/
def Pars (H : Hp) (us : List (Str × UF)) (ds : List (Str × Str)) (kvs : List (List Key × V)) : Prop := ∀ d v, valV kvs (key2 d) = some v → Par H us ds d v
theorem Pars.same {H H' : Hp} {us : List (Str × UF)} {ds : List (Str × Str)} {kvs : List (List Key × V)} (h : Pars H us ds kvs) (s : Same H H') : Pars H' us ds kvs := fun d v e => by
  rcases h d v e with h | ⟨n, t, a, h1, h2, h3, h4⟩
  · exact .inl h
  · exact .inr ⟨n, t, a, h1, h2, s _ _ h3, h4⟩
theorem Pars.keep {H H' : Hp} {us : List (Str × UF)} {ds : List (Str × Str)} {kvs : List (List Key × V)} {q : Addr} (h : Pars H us ds kvs) (k : Kp q H H') (n : NotTup H q) : Pars H' us ds kvs := fun d v e => by
  rcases h d v e with h | ⟨m, t, a, h1, h2, h3, h4⟩
  · exact .inl h
  · exact .inr ⟨m, t, a, h1, h2, k _ _ h3 (n.ne h3), h4⟩
theorem Pars.put {H : Hp} {us : List (Str × UF)} {ds : List (Str × Str)} {kvs : List (List Key × V)} {d : Str × Str} {v : V} (h : Pars H us ds kvs) (hv : Par H us ds d v) : Pars H us ds (putK kvs (key2 d) v) := fun e x hx => by
  rw [valV_put] at hx
  by_cases c : key2 e = key2 d
  · rw [if_pos c] at hx
    cases hx
    rw [key2_inj c]
    exact hv
  · rw [if_neg c] at hx
    exact h e x hx

-- SPLIT
/-! ### causes -/
def sp_causes (K : PySem.W.Frag) : Sp := fun vs H Q _ => ∃ (p l : Addr) (us : List (Str × UF)) (xs : List V) (ds : List (Str × Str)), vs = [.ref p, .ref l] ∧ ShelfAt K H p us ∧ Nms us ∧ (∀ p ∈ us, p.2.needs.length ≤ 100) ∧ SqL K H l xs ∧ PrH H xs ds ∧ (∀ d ∈ ds, WD us d) ∧
  ∀ D (kvs : List (List Key × V)) (es : List (Str × Str)) H', H D = none → Same H H' → H' D = some (.dT kvs) → kvs.map (·.1) = es.map key2 → es.Nodup → (∀ d, d ∈ es ↔ ∃ n, Lv us ds n d) → Pars H' us ds kvs → Q (.ref D) H'
theorem ok_causes (T : Txt K mg) : FnOk P w K mg base CX0 5 (He.fAd K ("causes", none)) T.d_causes ["shelf", "demands"] (sp_causes K) := by
  refine T.F_causes.ok sc_causes (fun vs H Q E h => ?_) (fun cdv A outer s H vs Q E hr h => ?_)
  · obtain ⟨p, l, us, xs, ds, rfl, _⟩ := h
    rfl
  · obtain ⟨p, l, us, xs, ds, rfl, hS, hN, hF, hl, hP, hW, q⟩ := h
    refine ⟨_, PSs.nox (pss_cons (UD.ps_setDt (hu_of hr) (i := 3) (own := [("demand", 2)]) (by rfl) sc_causes.nd rfl rfl (UP.sw_dict rfl rfl rfl (by decide +kernel)) (pi_list (pv 1)) (blkOk_by (own := [("demand", 2)]) (N := N_causes) (sc := defScope s_causes) (by decide +kernel)) (fun _ _ _ _ _ => (pg_name (i := 2) sc_causes.nd rfl (Or.inl rfl))) (fun _ _ _ _ _ => pts_nil) (fun _ _ _ _ _ => (pv 2)) (fun _ _ _ _ _ => pe_non))
      (pss_cons (ps_set (i := 4) sc_causes.nd rfl (Or.inl rfl) (pe_callTy (T := "list")  (call_list_dT rfl) (by rfl) T.n_list (by decide +kernel) (pa_cons (pv 3) pa_nil)))
      (pss_cons (ps_while PassesOwn.never (pt_cmpR op_gt (pe_callB (id := "len")  call_len_seq (by rfl) T.n_len (by decide +kernel) (pa_cons (pv 4) pa_nil)) pe_int (nomark _))
      (pss_cons (ps_set (i := 5) sc_causes.nd rfl (Or.inl rfl) (pe_lst pa_nil))
      (pss_cons (ps_for PassesOwn.never rfl (pi_list (pv 4)) (pg_name (i := 2) sc_causes.nd rfl (Or.inl rfl))
      (pss_one (ps_for PassesOwn.never rfl (pi_list (pe_call (ok_at_once T) (hr.mono (by decide)) (by rfl) T.m_at_once T.F_at_once.kp T.b_at_once .nil pass0 (pa_cons (pv 0) (pa_cons (pv 2) pa_nil)))) (pg_name (i := 6) sc_causes.nd rfl (Or.inl rfl))
      (pss_one (ps_if (pt_cmp (pc_dnotin (hu_of hr) (pv 6) (pv 3)))
      (pss_cons (ps_dput (hu_of hr) (pv 3) (pv 6) (pv 2) rfl)
      (pss_one (ps_expr (pe_bm PySem.F.plainAttrs_list PySem.F.slot_list_append PySem.F.type_list_append mt_append (pv 5) (pa_cons (pv 6) pa_nil)))))
      pss_nil)))))
      (pss_one (ps_set (i := 4) sc_causes.nd rfl (Or.inl rfl) (pv 5))))))
      (pss_one (ps_ret (pv 3)))))), ?_⟩
    -- found = {demand: None for demand in demands}
    refine ⟨_, rfl, l, rfl, ⟨_, hl⟩, fun D nD => ?_⟩
    refine dt_it (walk_list (xs := xs)) (fun i H' => Same H H' ∧ ∃ (kvs : List (List Key × V)) (es : List (Str × Str)), H' D = some (.dT kvs) ∧ kvs.map (·.1) = es.map key2 ∧ es.Nodup ∧ (∀ d, d ∈ es ↔ d ∈ ds.take i) ∧ Pars H' us ds kvs) ⟨same_upd nD, [], [], upd_same, rfl, List.nodup_nil, fun d => Iff.rfl, fun d v e => nomatch e⟩ (fun i H' _ h => SqL.ext hl h.1) ?_ ?_
    · rintro i x H1 H1' hi ⟨s1, kvs, es, w1, hk, hn, hm, hpr⟩ ⟨rfl, hx⟩
      obtain ⟨t, d, rfl, hd, ht⟩ := hP.get hx
      have few := wd_few hN hn fun d hd => hW d (List.mem_of_mem_take ((hm d).mp hd))
      refine ⟨rfl, yes_of (iteT ⟨_, rfl, kvs, key2 d, t, rfl, s1 _ _ ht, w1, by rw [len2 hk]; exact small1000 (by omega), ?_⟩)⟩
      refine ⟨Same.own (q := D) s1 (mut_keep rfl) nD, _, if d ∈ es then es else es ++ [d], upd_same, ?_, ?_, fun e => ?_, ?_⟩
      · by_cases c : d ∈ es
        · rw [if_pos c]
          exact put2_old hk c _
        · rw [if_neg c]
          exact put2_new hk c _
      · by_cases c : d ∈ es
        · rw [if_pos c]
          exact hn
        · rw [if_neg c]
          exact snoc_nodup hn c
      · rw [take_snoc hd, List.mem_append, List.mem_singleton, ← hm e]
        by_cases c : d ∈ es
        · rw [if_pos c]
          exact ⟨.inl, fun z => z.elim id fun z => z ▸ c⟩
        · rw [if_neg c, List.mem_append, List.mem_singleton]
      · exact (hpr.keep (mut_keep rfl) (UD.NotTup.dT w1)).put (.inl ⟨lv0.mpr (List.mem_of_getElem? hd), rfl⟩)
    rintro H1 ⟨s1, kvs, es, w1, hk, hn, hm, hpr⟩
    rw [hP.len, List.take_length] at hm
    -- front = list(found)
    refine ⟨_, rfl, D, kvs, rfl, .inl w1, fun f bs nf isk => ?_⟩
    have pf := keys_prH isk hk
    generalize hE2 : upd H1 f _ = H2
    have w2 := new_at hE2
    have s2 := new_same hE2 nf
    have nDf : D ≠ f := ne_some w1 nf
    refine ⟨fun m σ H' => Same H H' ∧ ∃ (i : Nat) (kvs : List (List Key × V)) (es : List (Str × Str)) (f : Addr) (fxs : List V) (fs : List (Str × Str)) (y2 y5 y6 : Option V), H' D = some (.dT kvs) ∧ kvs.map (·.1) = es.map key2 ∧ es.Nodup ∧ (∀ d, d ∈ es ↔ ∃ m, m ≤ i ∧ Lv us ds m d) ∧ Pars H' us ds kvs ∧ H' f = some (.lst fxs) ∧ PrH H' fxs fs ∧ (∀ d, d ∈ fs ↔ Lv us ds i d) ∧ m = 2 * (40 - es.length) + (if fs = [] then 0 else 1) ∧
        σ = [some (.ref p), some (.ref l), y2, some (.ref D), some (.ref f), y5, y6],
      ⟨_, s1.trans s2, 0, kvs, es, f, _, es, none, none, none, s2 _ _ w1, hk, hn, fun d => ?_, hpr.same s2, w2, pf.same s2, fun d => (hm d).trans lv0.symm, rfl, rfl⟩, ?_⟩
    · rw [hm, ← lv0 (us := us) (ds := ds)]
      refine ⟨fun h => ⟨0, Nat.le_refl _, h⟩, fun ⟨m, h0, h⟩ => ?_⟩
      obtain rfl : m = 0 := by omega
      exact h
    clear w2 s2 nDf hE2 pf isk nf bs f hm hn hk w1 s1 hpr
    rintro m σ H3 ⟨s3, lv, kvs, es, f, fxs, fs, y2, y5, y6, w3, hk, hn, hes, hpr, wf, pf, hfs, rfl, rfl⟩
    have wdE : ∀ d ∈ es, WD us d := fun d hd => by
      obtain ⟨m, _, h⟩ := (hes d).mp hd
      exact near_wd hW h.1
    have few := wd_few hN hn wdE
    refine ⟨_, rfl, f, _, rfl, .inl (SqL.of wf), _, _, rfl, rfl, _, rfl, ?_⟩
    rw [pf.len]
    by_cases c : fs = []
    · subst c
      refine iteNd (by decide) ⟨_, rfl, q D kvs es H3 nD s3 w3 hk hn (lv_all hes fun d hd => nomatch (hfs d).mpr hd) hpr⟩
    have hpos : 0 < fs.length := List.length_pos_iff.mpr c
    refine iteYd (by omega) ⟨_, fun σ' H' h => h, ?_⟩
    -- reached = []
    refine ⟨by show 0 ≤ sizeLine; decide, fun R nR => ?_⟩
    generalize hE4 : upd H3 R _ = H4
    have wR := new_at hE4
    have s4 := new_same hE4 nR
    have nRH : H R = none := s3.free nR
    have nDR : D ≠ R := ne_some w3 nR
    have nfR : f ≠ R := ne_some wf nR
    have nDf : D ≠ f := fun e => by rw [e, wf] at w3; cases w3
    -- for demand in front
    refine ⟨_, rfl, f, rfl, ⟨_, SqL.of (s4 _ _ wf)⟩, for_list (xs := fxs) (fun i σ H' => Same H H' ∧ H' f = some (.lst fxs) ∧ PrH H' fxs fs ∧ ∃ (kv : List (List Key × V)) (rxs : List V) (rs : List (Str × Str)) (y2 y6 : Option V), H' D = some (.dT kv) ∧ kv.map (·.1) = (es ++ rs).map key2 ∧ (es ++ rs).Nodup ∧ (∀ d ∈ rs, Lv us ds (lv + 1) d) ∧ Pars H' us ds kv ∧ H' R = some (.lst rxs) ∧ PrH H' rxs rs ∧ (∀ a ∈ fs.take i, ∀ b ∈ ao us a, b ∈ es ++ rs) ∧
          σ = [some (.ref p), some (.ref l), y2, some (.ref D), some (.ref f), some (.ref R), y6])
      ⟨s3.trans s4, s4 _ _ wf, pf.same s4, kvs, [], [], _, _, s4 _ _ w3, by rw [List.append_nil]; exact hk, by rw [List.append_nil]; exact hn, (fun d hd => nomatch hd), hpr.same s4, wR, .nil, (fun a ha => nomatch ha), rfl⟩ (fun i σ H' _ h => SqL.of h.2.1) ?_ ?_⟩
    · rintro i x σ H5 hi ⟨s5, wf5, pf5, kv, rxs, rs, y2, y6, w5, hk5, hn5, hr5, hpr5, wR5, pR5, hcl5, rfl⟩
      obtain ⟨t, a, rfl, ha, ht⟩ := pf5.get hi
      have haL : Lv us ds lv a := (hfs a).mp (List.mem_of_getElem? ha)
      have hawd := near_wd hW haL.1
      -- for other in at_once(shelf, demand)
      refine ⟨_, rfl, _, rfl, p, t, us, a, rfl, hS.same s5, hN, hF, SqT.of ht, hawd.1, fun L lxs H6 nL s6 wL pL => ?_⟩
      have nDL : D ≠ L := ne_some w5 nL
      have nRL : R ≠ L := ne_some wR5 nL
      have nfL : f ≠ L := ne_some wf5 nL
      refine ⟨L, rfl, ⟨_, SqL.of wL⟩, for_list (xs := lxs) (fun j σ H' => Same H H' ∧ H' f = some (.lst fxs) ∧ PrH H' fxs fs ∧ H' L = some (.lst lxs) ∧ PrH H' lxs (ao us a) ∧ H' t = some (.tup [.str a.1, .str a.2]) ∧ ∃ (kv : List (List Key × V)) (rxs : List V) (rs : List (Str × Str)) (y6 : Option V), H' D = some (.dT kv) ∧ kv.map (·.1) = (es ++ rs).map key2 ∧ (es ++ rs).Nodup ∧ (∀ d ∈ rs, Lv us ds (lv + 1) d) ∧ Pars H' us ds kv ∧ H' R = some (.lst rxs) ∧ PrH H' rxs rs ∧ (∀ a ∈ fs.take i, ∀ b ∈ ao us a, b ∈ es ++ rs) ∧ (∀ b ∈ (ao us a).take j, b ∈ es ++ rs) ∧
            σ = [some (.ref p), some (.ref l), some (.ref t), some (.ref D), some (.ref f), some (.ref R), y6])
        ⟨s5.trans s6, s6 _ _ wf5, pf5.same s6, wL, pL, s6 _ _ ht, kv, rxs, rs, _, s6 _ _ w5, hk5, hn5, hr5, hpr5.same s6, s6 _ _ wR5, pR5.same s6, hcl5, (fun b hb => nomatch hb), rfl⟩ (fun j σ H' _ h => SqL.of h.2.2.2.1) ?_ ?_⟩
      · rintro j x σ H7 hj ⟨s7, wf7, pf7, wL7, pL7, ht7, kv, rxs, rs, y6, w7, hk7, hn7, hr7, hpr7, wR7, pR7, hcl7, hin7, rfl⟩
        obtain ⟨u, b, rfl, hb, hu⟩ := pL7.get hj
        have hbao : b ∈ ao us a := List.mem_of_getElem? hb
        have few7 := wd_few hN hn7 fun d hd => (List.mem_append.mp hd).elim (wdE d) fun z => near_wd hW (hr7 d z).1
        have rsl : rs.length ≤ 32 := by
          rw [List.length_append] at few7
          omega
        refine ⟨_, rfl, _, rfl, D, _, rfl, DGet.t (k := key2 b) w7 hu, _, rfl, ?_⟩
        rw [val2 hk7]
        by_cases c2 : b ∈ es ++ rs
        · rw [decide_eq_true c2]
          refine iteF ⟨s7, wf7, pf7, wL7, pL7, ht7, kv, rxs, rs, _, w7, hk7, hn7, hr7, hpr7, wR7, pR7, hcl7, fun e he => ?_, rfl⟩
          rw [take_snoc hb] at he
          rcases List.mem_append.mp he with he | he
          · exact hin7 e he
          · rw [List.mem_singleton.mp he]
            exact c2
        rw [decide_eq_false c2]
        have hbL : Lv us ds (lv + 1) b := lv_new hes haL hbao fun z => c2 (List.mem_append_left _ z)
        refine iteT ?_
        refine ⟨_, rfl, _, rfl, _, rfl, D, _, rfl, DPut.t (k := key2 b) w7 hu (by rw [len2 hk7]; exact small1000 (by omega)), ?_⟩
        generalize hE8 : upd H7 D _ = H8
        have w8 := new_at hE8
        have m8 := mut_keep hE8
        have nt8 : NotTup H7 D := UD.NotTup.dT w7
        have wR8 := m8 _ _ wR7 nDR.symm
        refine ⟨_, rfl, .inl ⟨rfl, _, SqL.of wR8⟩, _, rfl, R, _, _, rfl, rfl, wR8, by rw [pR7.len]; exact small1000 (by omega), ?_⟩
        generalize hE9 : upd H8 R _ = H9
        have w9 := new_at hE9
        have m9 := mut_keep hE9
        have nt9 : NotTup H8 R := .lst wR8
        have tk : ∀ {c : Addr} {o : HO}, H7 c = some o → c ≠ D → c ≠ R → H9 c = some o := fun h h1 h2 => m9 _ _ (m8 _ _ h h1) h2
        have hu9 : H9 u = some (.tup [.str b.1, .str b.2]) := tk hu (nt8.ne hu) (fun e => by rw [e, wR7] at hu; cases hu)
        have ht9 : H9 t = some (.tup [.str a.1, .str a.2]) := tk ht7 (nt8.ne ht7) (fun e => by rw [e, wR7] at ht7; cases ht7)
        have app : es ++ (rs ++ [b]) = (es ++ rs) ++ [b] := (List.append_assoc ..).symm
        refine ⟨Same.own (Same.own s7 m8 nD) m9 nRH, tk wf7 nDf.symm nfR, (pf7.keep m8 nt8).keep m9 nt9, tk wL7 nDL.symm nRL.symm, (pL7.keep m8 nt8).keep m9 nt9, ht9, _, _, rs ++ [b], _, m9 _ _ w8 nDR, ?_, ?_, fun d hd => ?_, ?_, w9, ((pR7.keep m8 nt8).keep m9 nt9).app (.cons hu9 .nil), fun e he b' hb' => ?_, fun e he => ?_, rfl⟩
        · rw [app]
          exact put2_new hk7 c2 _
        · rw [app]
          exact snoc_nodup hn7 c2
        · rcases List.mem_append.mp hd with hd | hd
          · exact hr7 d hd
          · rw [List.mem_singleton.mp hd]
            exact hbL
        · exact ((hpr7.keep m8 nt8).keep m9 nt9).put (.inr ⟨lv, t, a, hbL, rfl, ht9, haL, hbao⟩)
        · rw [app]
          exact List.mem_append_left _ (hcl7 e he b' hb')
        · rw [app]
          rw [take_snoc hb] at he
          rcases List.mem_append.mp he with he | he
          · exact List.mem_append_left _ (hin7 e he)
          · exact List.mem_append_right _ he
      · rintro σ H7 ⟨s7, wf7, pf7, wL7, pL7, ht7, kv, rxs, rs, y6, w7, hk7, hn7, hr7, hpr7, wR7, pR7, hcl7, hin7, rfl⟩
        rw [pL7.len, List.take_length] at hin7
        refine ⟨s7, wf7, pf7, kv, rxs, rs, _, _, w7, hk7, hn7, hr7, hpr7, wR7, pR7, fun e he b' hb' => ?_, rfl⟩
        rw [take_snoc ha] at he
        rcases List.mem_append.mp he with he | he
        · exact hcl7 e he b' hb'
        · rw [List.mem_singleton.mp he] at hb'
          exact hin7 b' hb'
    · rintro σ H5 ⟨s5, wf5, pf5, kv, rxs, rs, y2, y6, w5, hk5, hn5, hr5, hpr5, wR5, pR5, hcl5, rfl⟩
      rw [pf5.len, List.take_length] at hcl5
      obtain ⟨hes', hrs'⟩ := lv_round hes hfs hr5 hcl5
      have few5 := wd_few hN hn5 fun d hd => (List.mem_append.mp hd).elim (wdE d) fun z => near_wd hW (hr5 d z).1
      -- front = reached
      refine ⟨_, rfl, _, ?_, s5, lv + 1, kv, es ++ rs, R, rxs, rs, _, _, _, w5, hk5, hn5, hes', hpr5, wR5, pR5, hrs', rfl, rfl⟩
      rw [if_neg c]
      rw [List.length_append] at few5 ⊢
      by_cases c3 : rs = []
      · rw [if_pos c3, c3]
        show 2 * (40 - (es.length + 0)) + 0 < _
        omega
      · rw [if_neg c3]
        have := List.length_pos_iff.mpr c3
        omega
-- SPLIT
/-! ### chains -/
/-- each follows at once from the one ahead -/
def Ch (us : List (Str × UF)) : List (Str × Str) → Prop
  | a :: b :: r => b ∈ ao us a ∧ Ch us (b :: r)
  | _ => True
theorem prh_rev {H : Hp} {xs : List V} {cs : List (Str × Str)} (h : PrH H xs cs) : PrH H xs.reverse cs.reverse := by
  induction h with
  | nil => exact .nil
  | cons a _ ih =>
    rw [List.reverse_cons, List.reverse_cons]
    exact ih.app (.cons a .nil)
/-- as many as there are levels -/
theorem lv_row {us : List (Str × UF)} {ds : List (Str × Str)} : ∀ {n : Nat} {d : Str × Str}, Lv us ds n d → ∃ cs : List (Str × Str), cs.Nodup ∧ cs.length = n + 1 ∧ ∀ c ∈ cs, ∃ m, m ≤ n ∧ Lv us ds m c
  | 0, d, h => ⟨[d], List.nodup_cons.mpr ⟨List.not_mem_nil, List.nodup_nil⟩, rfl, fun c hc => ⟨0, Nat.le_refl _, by rw [List.mem_singleton.mp hc]; exact h⟩⟩
  | n + 1, d, h => by
    obtain ⟨a, ha, _⟩ := lv_step h
    obtain ⟨cs, hn, hl, hc⟩ := lv_row ha
    refine ⟨d :: cs, List.nodup_cons.mpr ⟨fun z => ?_, hn⟩, by rw [List.length_cons, hl], fun c hcm => ?_⟩
    · obtain ⟨m, hm, hl⟩ := hc d z
      have := hl.uniq h
      omega
    · rcases List.mem_cons.mp hcm with rfl | hcm
      · exact ⟨n + 1, Nat.le_refl _, h⟩
      · obtain ⟨m, hm, hl⟩ := hc c hcm
        exact ⟨m, by omega, hl⟩
theorem lv_few {us : List (Str × UF)} {ds es : List (Str × Str)} {n : Nat} {d : Str × Str} (h : Lv us ds n d) (he : ∀ d n, Lv us ds n d → d ∈ es) : n < es.length := by
  obtain ⟨cs, hn, hl, hc⟩ := lv_row h
  have := nodup_le cs es hn fun c hcm => by
    obtain ⟨m, _, h⟩ := hc c hcm
    exact he c m h
  omega
def sp_chain_to (K : PySem.W.Frag) : Sp := fun vs H Q _ => ∃ (D g : Addr) (us : List (Str × UF)) (ds : List (Str × Str)) (kvs : List (List Key × V)) (goal : Str × Str) (n : Nat), vs = [.ref D, .ref g] ∧ H D = some (.dT kvs) ∧ H g = some (.tup [.str goal.1, .str goal.2]) ∧ Pars H us ds kvs ∧ (∀ d n, Lv us ds n d → (valV kvs (key2 d)).isSome = true) ∧ Lv us ds n goal ∧ n ≤ 100 ∧
  ∀ L xs cs H', H L = none → Same H H' → H' L = some (.lst xs) → PrH H' xs cs → cs.length = n + 1 → (∀ c, cs.head? = some c → c ∈ ds) → cs.getLast? = some goal → Ch us cs → Q (.ref L) H'
theorem ok_chain_to (T : Txt K mg) : FnOk P w K mg base CX0 1 (He.fAd K ("chain_to", none)) T.d_chain_to ["found", "goal"] (sp_chain_to K) := by
  refine T.F_chain_to.ok sc_chain_to (fun vs H Q E h => ?_) (fun cdv A outer s H vs Q E hr h => ?_)
  · obtain ⟨D, g, us, ds, kvs, goal, n, rfl, _⟩ := h
    rfl
  · obtain ⟨D, g, us, ds, kvs, goal, n, rfl, wD, wg, hpr, hall, hL, hn, q⟩ := h
    refine ⟨_, PSs.nox (pss_cons (ps_set (i := 2) sc_chain_to.nd rfl (Or.inl rfl) (pe_lst pa_nil))
      (pss_cons (ps_set (i := 3) sc_chain_to.nd rfl (Or.inl rfl) (pv 1))
      (pss_cons (ps_while PassesOwn.never (pt_cmpR op_notN (pv 3) pe_non (nomark _))
      (pss_cons (ps_expr (pe_bm PySem.F.plainAttrs_list PySem.F.slot_list_append PySem.F.type_list_append mt_append (pv 2) (pa_cons (pv 3) pa_nil)))
      (pss_one (ps_set (i := 3) sc_chain_to.nd rfl (Or.inl rfl) (pe_dget (hu_of hr) (pv 0) (pv 3) (fun _ _ => rfl))))))
      (pss_one (ps_ret (pe_revL (pv 2))))))), ?_⟩
    refine ⟨by show 0 ≤ sizeLine; decide, fun Lk nLk => ?_⟩
    generalize hE1 : upd H Lk _ = H1
    have w1 := new_at hE1
    have s1 := new_same hE1 nLk
    refine ⟨_, rfl, ?_⟩
    refine ⟨fun m σ H' => Same H H' ∧ ∃ (xs : List V) (ls : List (Str × Str)) (y : V), H' Lk = some (.lst xs) ∧ PrH H' xs ls ∧ σ = [some (.ref D), some (.ref g), some (.ref Lk), some y] ∧
        ((∃ (t : Addr) (a : Str × Str) (k : Nat), y = .ref t ∧ H' t = some (.tup [.str a.1, .str a.2]) ∧ Lv us ds k a ∧ ls.length + k = n ∧ Ch us (a :: ls.reverse) ∧ (a :: ls.reverse).getLast? = some goal ∧ m = k + 1) ∨
         (y = .non ∧ ls.length = n + 1 ∧ (∀ c, ls.reverse.head? = some c → c ∈ ds) ∧ ls.reverse.getLast? = some goal ∧ Ch us ls.reverse ∧ m = 0)),
      ⟨_, s1, [], [], .ref g, w1, .nil, rfl, .inl ⟨g, goal, n, rfl, s1 _ _ wg, hL, Nat.zero_add n, trivial, rfl, rfl⟩⟩, ?_⟩
    clear w1 s1 hE1
    rintro m σ H2 ⟨s2, xs, ls, y, w2, p2, rfl, hy⟩
    refine ⟨_, rfl, rfl, _, rfl, ?_⟩
    rcases hy with ⟨t, a, k, rfl, ht, ha, hlen, hch, hlast, rfl⟩ | ⟨rfl, hlen, hhead, hlast, hch, rfl⟩
    · refine iteT ⟨_, fun σ' H' h => h, ?_⟩
      refine ⟨_, rfl, .inl ⟨rfl, _, SqL.of w2⟩, _, rfl, Lk, _, _, rfl, rfl, w2, by rw [p2.len]; exact small1000 (by omega), ?_⟩
      generalize hE3 : upd H2 Lk _ = H3
      have w3 := new_at hE3
      have m3 := mut_keep hE3
      have nt3 : NotTup H2 Lk := .lst w2
      have s3 : Same H H3 := Same.own s2 m3 nLk
      have ht3 := m3 _ _ ht (nt3.ne ht)
      have p3 : PrH H3 (xs ++ [.ref t]) (ls ++ [a]) := (p2.keep m3 nt3).app (.cons ht3 .nil)
      obtain ⟨v, hv⟩ := Option.isSome_iff_exists.mp (hall a k ha)
      refine ⟨_, rfl, _, rfl, D, v, rfl, hv ▸ DGet.t (k := key2 a) (s3 _ _ wD) ht3, ?_⟩
      have rev : (ls ++ [a]).reverse = a :: ls.reverse := by rw [List.reverse_append]; rfl
      rcases hpr.same s3 a v hv with ⟨h0, rfl⟩ | ⟨m, t', a', h1, rfl, ht', ha', hao⟩
      · obtain rfl := ha.uniq h0
        refine ⟨0, by omega, s3, _, ls ++ [a], .non, w3, p3, rfl, .inr ⟨rfl, by rw [List.length_append]; show ls.length + 1 = n + 1; omega, fun c hc => ?_, by rw [rev]; exact hlast, by rw [rev]; exact hch, rfl⟩⟩
        rw [rev] at hc
        cases hc
        exact lv0.mp h0
      · obtain rfl := ha.uniq h1
        refine ⟨m + 1, by omega, s3, _, ls ++ [a], .ref t', w3, p3, rfl, .inl ⟨t', a', m, rfl, ht', ha', by rw [List.length_append]; show ls.length + 1 + m = n; omega, by rw [rev]; exact ⟨hao, hch⟩, ?_, rfl⟩⟩
        rw [rev, List.getLast?_cons_cons]
        exact hlast
    · refine iteF ?_
      refine ⟨_, rfl, Lk, _, rfl, SqL.of w2, fun L nL => ?_⟩
      have s3 : Same H2 (upd H2 L (.lst xs.reverse)) := same_upd nL
      exact q L _ ls.reverse _ (s2.free nL) (s2.trans s3) upd_same ((prh_rev p2).same s3) (by rw [List.length_reverse]; exact hlen) hhead hlast hch
-- SPLIT
def sp_chain (K : PySem.W.Frag) : Sp := fun vs H Q _ => ∃ (p l g : Addr) (us : List (Str × UF)) (xs : List V) (ds : List (Str × Str)) (goal : Str × Str), vs = [.ref p, .ref l, .ref g] ∧ ShelfAt K H p us ∧ Nms us ∧ (∀ p ∈ us, p.2.needs.length ≤ 100) ∧ SqL K H l xs ∧ PrH H xs ds ∧ (∀ d ∈ ds, WD us d) ∧ H g = some (.tup [.str goal.1, .str goal.2]) ∧
  (∀ n, Lv us ds n goal → ∀ L xs cs H', H L = none → Same H H' → H' L = some (.lst xs) → PrH H' xs cs → cs.length = n + 1 → n ≤ 100 → (∀ c, cs.head? = some c → c ∈ ds) → cs.getLast? = some goal → Ch us cs → Q (.ref L) H') ∧
  ((∀ n, ¬ Lv us ds n goal) → ∀ H', Same H H' → Q .non H')
theorem ok_chain (T : Txt K mg) : FnOk P w K mg base CX0 6 (He.fAd K ("chain", none)) T.d_chain ["shelf", "demands", "goal"] (sp_chain K) := by
  refine T.F_chain.ok sc_chain (fun vs H Q E h => ?_) (fun cdv A outer s H vs Q E hr h => ?_)
  · obtain ⟨p, l, g, us, xs, ds, goal, rfl, _⟩ := h
    rfl
  · obtain ⟨p, l, g, us, xs, ds, goal, rfl, hS, hN, hF, hl, hP, hW, wg, q1, q2⟩ := h
    refine ⟨_, PSs.nox (pss_cons (ps_set (i := 3) sc_chain.nd rfl (Or.inl rfl) (pe_call (ok_causes T) (hr.mono (by decide)) (by rfl) T.m_causes T.F_causes.kp T.b_causes .nil pass0 (pa_cons (pv 0) (pa_cons (pv 1) pa_nil))))
      (pss_one (ps_ret (pe_mid (pe_ifExp (pt_cmp (pc_din (hu_of hr) (pv 2) (pv 3))) (pe_call (ok_chain_to T) (hr.mono (by decide)) (by rfl) T.m_chain_to T.F_chain_to.kp T.b_chain_to .nil pass0 (pa_cons (pv 3) (pa_cons (pv 2) pa_nil))) pe_non))))), ?_⟩
    refine ⟨_, rfl, _, rfl, p, l, us, xs, ds, rfl, hS, hN, hF, hl, hP, hW, fun D kvs es H1 nD s1 w1 hk hn hm hpr => ?_⟩
    have few := wd_few hN hn fun d hd => by
      obtain ⟨n, h⟩ := (hm d).mp hd
      exact near_wd hW h.1
    have hall : ∀ d n, Lv us ds n d → (valV kvs (key2 d)).isSome = true := fun d n h => by
      rw [val2 hk]
      exact decide_eq_true ((hm d).mpr ⟨n, h⟩)
    have wg1 := s1 _ _ wg
    refine ⟨fun v H' => Q v H', ?_, fun v H' h => h⟩
    refine ⟨_, rfl, _, rfl, D, _, rfl, DGet.t (k := key2 goal) w1 wg1, _, rfl, ?_⟩
    rw [val2 hk]
    by_cases c : goal ∈ es
    · rw [decide_eq_true c]
      obtain ⟨n, hL⟩ := (hm goal).mp c
      have hn := lv_few hL fun d n h => (hm d).mpr ⟨n, h⟩
      refine iteT ⟨_, rfl, _, rfl, D, g, us, ds, kvs, goal, n, rfl, w1, wg1, hpr, hall, hL, by omega, fun L ys cs H2 nL s2 wL pL hlen hh hlast hch => ?_⟩
      exact q1 n hL L ys cs H2 (s1.free nL) (s1.trans s2) wL pL hlen (by omega) hh hlast hch
    · rw [decide_eq_false c]
      exact iteF (q2 (fun n h => c ((hm goal).mpr ⟨n, h⟩)) H1 s1)

-- SPLIT
/-! ### knots -/
def WR (H : Hp) (v : V) (_ : Str) (ys : List Str) : Prop := ∃ l, v = .ref l ∧ H l = some (.lst (ys.map V.str))
theorem WR.same {H H' : Hp} {v : V} {w : Str} {ys : List Str} (h : WR H v w ys) (s : Same H H') : WR H' v w ys := by
  obtain ⟨l, e, hl⟩ := h
  exact ⟨l, e, s _ _ hl⟩
theorem WR.keepD {H H' : Hp} {v : V} {w : Str} {ys : List Str} {q : Addr} {kvs : List (Key × V)} (h : WR H v w ys) (k : Kp q H H') (hq : H q = some (.dK kvs)) : WR H' v w ys := by
  obtain ⟨l, e, hl⟩ := h
  exact ⟨l, e, k _ _ hl fun z => by rw [z, hq] at hl; cases hl⟩
/-- the same, of lists that are not at q -/
def WRn (H : Hp) (q : Addr) (v : V) (_ : Str) (ys : List Str) : Prop := ∃ l, v = .ref l ∧ l ≠ q ∧ H l = some (.lst (ys.map V.str))
theorem WRn.wr {H : Hp} {q : Addr} {v : V} {w : Str} {ys : List Str} (h : WRn H q v w ys) : WR H v w ys := by
  obtain ⟨l, e, _, hl⟩ := h
  exact ⟨l, e, hl⟩
theorem WRn.same {H H' : Hp} {q : Addr} {v : V} {w : Str} {ys : List Str} (h : WRn H q v w ys) (s : Same H H') : WRn H' q v w ys := by
  obtain ⟨l, e, n, hl⟩ := h
  exact ⟨l, e, n, s _ _ hl⟩
theorem WRn.keep {H H' : Hp} {q : Addr} {v : V} {w : Str} {ys : List Str} (h : WRn H q v w ys) (k : Kp q H H') : WRn H' q v w ys := by
  obtain ⟨l, e, n, hl⟩ := h
  exact ⟨l, e, n, k _ _ hl n⟩
theorem cutV_from (xs : List Str) (n : Nat) : cutV (xs.map V.str) (some (n : Int)) none = (xs.drop n).map V.str := by
  unfold cutV
  rw [show HT.sIx (xs.map V.str).length 0 (some (n : Int)) = min n (xs.map V.str).length from HT.sIx_nat (xs.map V.str).length 0 n, HT.sIx_none, List.length_map, List.map_drop]
  rw [List.take_of_length_le (by rw [List.length_drop, List.length_map]; exact Nat.le_refl _)]
  by_cases h : n ≤ xs.length
  · rw [Nat.min_eq_left h]
  · rw [Nat.min_eq_right (by omega), List.drop_eq_nil_of_le (by rw [List.length_map]; exact Nat.le_refl _), List.drop_eq_nil_of_le (by rw [List.length_map]; omega)]
def NxO (f : Str → List Str) (ns order : List Str) (v : V) : Prop := (v = .non ∧ ∀ n ∈ ns, n ∉ order → ∃ o ∈ f n, o ∉ order) ∨ ∃ n, v = .str n ∧ n ∈ ns ∧ n ∉ order ∧ ∀ o ∈ f n, o ∈ order
def sp_next_in (K : PySem.W.Frag) : Sp := fun vs H Q _ => ∃ (d l : Addr) (kvs : List (Key × V)) (ns order : List Str) (f : Str → List Str), vs = [.ref d, .ref l] ∧ H d = some (.dK kvs) ∧ Tab (WR H) kvs (ns.map fun n => (n, f n)) ∧ ns.Nodup ∧ ns.length ≤ 16 ∧ (∀ n, (f n).length ≤ 16) ∧ H l = some (.lst (order.map V.str)) ∧
  ∀ v H', Same H H' → NxO f ns order v → Q v H'
theorem ok_next_in (T : Txt K mg) : FnOk P w K mg base CX0 1 (He.fAd K ("next_in", none)) T.d_next_in ["waiting", "order"] (sp_next_in K) := by
  refine T.F_next_in.ok sc_next_in (fun vs H Q E h => ?_) (fun cdv A outer s H vs Q E hr h => ?_)
  · obtain ⟨d, l, kvs, ns, order, f, rfl, _⟩ := h
    rfl
  · obtain ⟨d, l, kvs, ns, order, f, rfl, hd, ht, hn, hl, hf, ho, q⟩ := h
    refine ⟨_, PSs.nox (pss_cons (ps_for PassesOwn.never rfl (pi_list (pe_callB (id := "sorted")  (call_sortedD rfl) (by rfl) T.n_sorted (by decide +kernel) (pa_cons (pv 0) pa_nil))) (pg_name (i := 2) sc_next_in.nd rfl (Or.inl rfl))
      (pss_one (ps_if (PW.pt (pw_and (pt_cmpR op_notIn_seq (pv 2) (pv 1) (by rfl)) (pw_and1 (pt_val (pe_callB (id := "all")  (cr_all rfl) (by rfl) T.n_all (by decide +kernel) (pa_cons (pe_lc (own := [("other", 3)]) (by rfl) sc_next_in.nd (pi_list (pe_dget (hu_of hr) (pv 0) (pv 2) (fun _ _ => rfl))) (blkOk_by (own := [("other", 3)]) (N := N_next_in) (sc := defScope s_next_in) (by decide +kernel)) (fun _ _ _ _ _ => (pg_name (i := 3) sc_next_in.nd rfl (Or.inl rfl))) (fun _ _ _ _ _ => pts_nil) (fun _ _ _ _ _ => (pe_cmpR (r := rIn K false) op_in_seq (pv 3) (pv 1) (by rfl)))) pa_nil))))))
      (pss_one (ps_ret (pv 2)))
      pss_nil)))
      (pss_one (ps_ret pe_non))), ?_⟩
    have names : (ns.map fun n => (n, f n)).map (·.1) = ns := by
      rw [List.map_map]
      exact List.map_id _
    have hk := ht.keys
    rw [names] at hk
    refine ⟨_, rfl, d, kvs, ns, rfl, .inl hd, hk, by omega, fun ys p hy hs np => ?_⟩
    obtain rfl := srt_of hy hs
    generalize hE : upd H p _ = H1
    have w1 := new_at hE
    have s1 := new_same hE np
    refine ⟨p, rfl, ⟨_, SqL.of w1⟩, for_list (xs := (srt ns).map V.str) (fun i σ H' => Same H1 H' ∧ (∀ n ∈ (srt ns).take i, n ∉ order → ∃ o ∈ f n, o ∉ order) ∧ ∃ y1 y2 : Option V, σ = [some (.ref d), some (.ref l), y1, y2])
      ⟨Same.refl _, (fun n hx => nomatch hx), none, none, rfl⟩ (fun i σ H' _ h => SqL.of (h.1 _ _ w1)) ?_ ?_⟩
    · rintro i x σ H2 hi ⟨s2, no, y1, y2, rfl⟩
      obtain ⟨n, hnm, rfl⟩ := map_str_get hi
      have hns : n ∈ ns := srt_mem.mp (List.mem_of_getElem? hnm)
      have s12 := s1.trans s2
      -- name not in order
      refine ⟨_, rfl, _, rfl, l, _, rfl, .inl (SqL.of (s12 _ _ ho)), rfl, strs_flat _, _, rfl, ?_⟩
      show if (if true = true then !inV (.str n) (order.map V.str) else _) = true then _ else _
      rw [if_pos rfl, inV_str]
      by_cases c : n ∈ order
      · rw [decide_eq_true c]
        refine iteF (iteF ⟨s2, fun m hm hmo => ?_, _, _, rfl⟩)
        rw [take_snoc hnm] at hm
        rcases List.mem_append.mp hm with hm | hm
        · exact no m hm hmo
        · rw [List.mem_singleton.mp hm] at hmo
          exact absurd c hmo
      rw [decide_eq_false c]
      refine iteT ?_
      -- all([..])
      obtain ⟨v, hv, wl, rfl, hwl⟩ := ht.get (by rw [names]; exact hn) (n, f n) (List.mem_map.mpr ⟨n, hns, rfl⟩)
      refine ⟨_, rfl, _, rfl, d, .ref wl, rfl, by rw [← hv]; exact DGet.k (k := Sum.inr n) (s12 _ _ hd), wl, rfl, ⟨_, SqL.of (s12 _ _ hwl)⟩, fun D nD => ?_⟩
      refine lc_list (xs := (f n).map V.str) (fun j H' => Same H2 H' ∧ H' D = some (.lst (((f n).take j).map fun o => V.bl (decide (o ∈ order))))) ⟨same_upd nD, upd_same⟩ (fun j H' _ h => SqL.of ((s12.trans h.1) _ _ hwl)) ?_ ?_
      · rintro j x H3 hj ⟨s3, w3⟩
        obtain ⟨o, hoo, rfl⟩ := map_str_get hj
        refine ⟨rfl, yes_of (iteT ?_)⟩
        refine ⟨_, rfl, _, rfl, l, _, rfl, .inl (SqL.of ((s12.trans s3) _ _ ho)), rfl, strs_flat _, _, w3, ?_, Same.own (q := D) s3 (mut_keep rfl) nD, ?_⟩
        · rw [List.length_map]
          have := hf n
          exact Nat.lt_of_le_of_lt (List.length_take_le' ..) (small1000 (by omega))
        · rw [upd_same, take_snoc hoo, List.map_append]
          show some (HO.lst (_ ++ [V.bl (inV (.str o) (order.map V.str))])) = _
          rw [inV_str]
          rfl
      rintro H3 ⟨s3, w3⟩
      rw [List.length_map, List.take_length] at w3
      refine ⟨D, (f n).map fun o => decide (o ∈ order), rfl, SqL.of (by rw [List.map_map]; exact w3), _, rfl, ?_⟩
      have s13 := s12.trans s3
      by_cases c2 : ∀ o ∈ f n, o ∈ order
      · rw [show ((f n).map fun o => decide (o ∈ order)).all id = true from List.all_eq_true.mpr fun b hb => by obtain ⟨o, ho', rfl⟩ := List.mem_map.mp hb; exact decide_eq_true (c2 o ho')]
        exact iteT ⟨_, rfl, q _ H3 s13 (.inr ⟨n, rfl, hns, c, c2⟩)⟩
      · have c3 : ∃ o ∈ f n, o ∉ order := by
          rcases Classical.em (∃ o ∈ f n, o ∉ order) with z | z
          · exact z
          · exact absurd (fun o ho' => Classical.byContradiction fun w => z ⟨o, ho', w⟩) c2
        rw [show ((f n).map fun o => decide (o ∈ order)).all id = false from by
          obtain ⟨o, ho', hno⟩ := c3
          rw [Bool.eq_false_iff]
          intro z
          exact hno (of_decide_eq_true (List.all_eq_true.mp z _ (List.mem_map.mpr ⟨o, ho', rfl⟩)))]
        refine iteF ⟨s2.trans s3, fun m hm hmo => ?_, _, _, rfl⟩
        rw [take_snoc hnm] at hm
        rcases List.mem_append.mp hm with hm | hm
        · exact no m hm hmo
        · rw [List.mem_singleton.mp hm]
          exact c3
    · rintro σ H2 ⟨s2, no, y1, y2, rfl⟩
      refine q _ H2 (s1.trans s2) (.inl ⟨rfl, fun n hns hno => no n ?_ hno⟩)
      rw [List.length_map, List.take_length]
      exact srt_mem.mpr hns
def wn (us : List (Str × UF)) (ns : List Str) (n : Str) : List Str := (wt us n).filter fun o => decide (o ∈ ns)
theorem wn_len {us : List (Str × UF)} (h : Nms us) (ns : List Str) (n : Str) : (wn us ns n).length ≤ 16 := by
  refine Nat.le_trans (List.length_filter_le _ _) (Nat.le_trans (List.length_filter_le _ _) ?_)
  rw [srt_len]
  exact h.len
def sp_free_order (K : PySem.W.Frag) : Sp := fun vs H Q _ => ∃ (p l : Addr) (us : List (Str × UF)) (ns : List Str), vs = [.ref p, .ref l] ∧ ShelfAt K H p us ∧ Nms us ∧ H l = some (.lst (ns.map V.str)) ∧ ns.Nodup ∧ (∀ n ∈ ns, n ∈ us.map (·.1)) ∧
  ∀ order D H', Same H H' → H D = none → H' D = some (.lst (order.map V.str)) → FreeO (wt us) ns order → (∀ n ∈ ns, n ∉ order → ∃ o ∈ wt us n, o ∈ ns ∧ o ∉ order) → Q (.ref D) H'
theorem ok_free_order (T : Txt K mg) : FnOk P w K mg base CX0 4 (He.fAd K ("free_order", none)) T.d_free_order ["shelf", "names"] (sp_free_order K) := by
  refine T.F_free_order.ok sc_free_order (fun vs H Q E h => ?_) (fun cdv A outer s H vs Q E hr h => ?_)
  · obtain ⟨p, l, us, ns, rfl, _⟩ := h
    rfl
  · obtain ⟨p, l, us, ns, rfl, hS, hN, hl, hn, hsub, q⟩ := h
    refine ⟨_, PSs.nox (pss_cons (UP.ps_setDc (i := 2) (own := [("name", 5)]) (by rfl) sc_free_order.nd rfl rfl (UP.sw_dict rfl rfl rfl (by decide +kernel)) (pi_list (pv 1)) (blkOk_by (own := [("name", 5)]) (N := N_free_order) (sc := defScope s_free_order) (by decide +kernel)) (fun _ _ _ _ _ => (pg_name (i := 5) sc_free_order.nd rfl (Or.inl rfl))) (fun _ _ _ _ _ => pts_nil) (fun _ _ _ _ _ => (pv 5)) (fun _ _ _ _ _ => by exact (pe_lc (own := [("other", 6)]) (by rfl) sc_free_order.nd (UP.pi_listK (K := K) (by rfl) (pe_meth (pv 0) T.cl_Shelf T.me_Shelf_waited (ok_Shelf_waited T) (hr.mono (by decide)) T.b_Shelf_waited .nil pass0 (pa_cons (pv 5) pa_nil))) (blkOk_by (own := [("other", 6)]) (N := N_free_order) (sc := _) (by rfl)) (fun _ _ _ _ _ => (pg_name (i := 6) sc_free_order.nd rfl (Or.inl rfl))) (fun _ _ _ _ _ => (pts_one (pt_cmpR (r := rIn K false) op_in_seq (pv 6) (pv 1) (by rfl)))) (fun _ _ _ _ _ => (pv 6)))))
      (pss_cons (ps_set (i := 3) sc_free_order.nd rfl (Or.inl rfl) (pe_lst pa_nil))
      (pss_cons (ps_set (i := 4) sc_free_order.nd rfl (Or.inl rfl) (pe_call (ok_next_in T) (hr.mono (by decide)) (by rfl) T.m_next_in T.F_next_in.kp T.b_next_in .nil pass0 (pa_cons (pv 2) (pa_cons (pv 3) pa_nil))))
      (pss_cons (ps_while PassesOwn.never (pt_cmpR op_notN (pv 4) pe_non (nomark _))
      (pss_cons (ps_expr (pe_bm PySem.F.plainAttrs_list PySem.F.slot_list_append PySem.F.type_list_append mt_append (pv 3) (pa_cons (pv 4) pa_nil)))
      (pss_one (ps_set (i := 4) sc_free_order.nd rfl (Or.inl rfl) (pe_call (ok_next_in T) (hr.mono (by decide)) (by rfl) T.m_next_in T.F_next_in.kp T.b_next_in .nil pass0 (pa_cons (pv 2) (pa_cons (pv 3) pa_nil)))))))
      (pss_one (ps_ret (pv 3))))))), ?_⟩
    -- waiting = {..}
    refine ⟨_, rfl, l, rfl, ⟨_, SqL.of hl⟩, fun D nD => ?_⟩
    have few : ns.length ≤ 16 := Nat.le_trans (nodup_le ns _ hn hsub) hN.len
    refine dc_it (walk_list (xs := ns.map V.str)) (fun i H' => Same H H' ∧ ∃ kvs, H' D = some (.dK kvs) ∧ Tab (WR H') kvs ((ns.take i).map fun n => (n, wn us ns n))) ⟨same_upd nD, [], upd_same, .nil⟩ (fun i H' _ h => SqL.of (h.1 _ _ hl)) ?_ ?_
    · rintro i x H1 H1' hi ⟨s1, kvs, w1, ht⟩ ⟨rfl, hx⟩
      obtain ⟨n, hnm, rfl⟩ := map_str_get hx
      have hns : n ∈ ns := List.mem_of_getElem? hnm
      refine ⟨rfl, yes_of (iteT ?_)⟩
      obtain ⟨dx, d, kv0, hp, _⟩ := id (hS.same s1)
      refine ⟨_, rfl, _, rfl, p, dx, _, rfl, hp, rfl, _, rfl, p, n, us, rfl, hS.same s1, hN, hsub n hns, fun wl H2 nwl s2 wwl => ?_⟩
      refine ⟨wl, rfl, ⟨_, SqL.of wwl⟩, fun D2 nD2 => ?_⟩
      refine lc_list (xs := (wt us n).map V.str) (fun j H' => Same H2 H' ∧ H' D2 = some (.lst ((((wt us n).take j).filter fun o => decide (o ∈ ns)).map V.str))) ⟨same_upd nD2, upd_same⟩ (fun j H' _ h => SqL.of (h.1 _ _ wwl)) ?_ ?_
      · rintro j x H3 hj ⟨s3, w3⟩
        obtain ⟨o, hoo, rfl⟩ := map_str_get hj
        refine ⟨rfl, _, rfl, _, rfl, l, _, rfl, .inl (SqL.of (((s1.trans s2).trans s3) _ _ hl)), rfl, strs_flat _, _, rfl, ?_⟩
        rw [take_filter_snoc _ hoo, inV_str]
        by_cases c : o ∈ ns
        · rw [decide_eq_true c]
          refine iteT ⟨_, rfl, _, w3, ?_, Same.own (q := D2) s3 (mut_keep rfl) nD2, ?_⟩
          · rw [List.length_map]
            refine Nat.lt_of_le_of_lt (List.length_filter_le _ _) (Nat.lt_of_le_of_lt (List.length_take_le' ..) (Nat.lt_of_le_of_lt (List.length_filter_le _ _) (small1000 ?_)))
            rw [srt_len]
            have := hN.len
            omega
          · rw [upd_same, if_pos rfl, List.map_append]
            rfl
        · rw [decide_eq_false c]
          refine iteF ⟨s3, ?_⟩
          rw [if_neg Bool.false_ne_true, List.append_nil]
          exact w3
      rintro H3 ⟨s3, w3⟩
      rw [List.length_map, List.take_length] at w3
      have s13 := (s1.trans s2).trans s3
      have wD3 := (s2.trans s3) _ _ w1
      have hfree : n ∉ ((ns.take i).map fun n => (n, wn us ns n)).map (·.1) := by
        rw [List.map_map]
        intro hm
        obtain ⟨m, hm, e⟩ := List.mem_map.mp hm
        have e : m = n := e
        rw [e, List.mem_take_iff_getElem] at hm
        obtain ⟨j, hj, e2⟩ := hm
        have := (List.getElem?_inj (by omega) hn).mp ((List.getElem?_eq_getElem (by omega)).trans ((congrArg some e2).trans hnm.symm))
        omega
      have hkl : kvs.length ≤ 16 := by
        rw [ht.len, List.length_map, List.length_take]
        omega
      refine ⟨kvs, Sum.inr n, rfl, wD3, small1000 (by omega), ?_⟩
      rw [putK_new _ (ht.free hfree)]
      generalize hE4 : upd H3 D _ = H4
      have m4 := mut_keep hE4
      refine ⟨Same.own s13 m4 nD, _, new_at hE4, ?_⟩
      rw [take_snoc hnm, List.map_append]
      exact (ht.imp fun v w ys r => (WR.same r (s2.trans s3)).keepD m4 wD3).app (.cons ⟨D2, rfl, m4 _ _ w3 fun z => by rw [z, wD3] at w3; cases w3⟩ .nil)
    rintro H1 ⟨s1, kvs, w1, ht⟩
    rw [List.length_map, List.take_length] at ht
    -- order = []; least = next_in(waiting, order)
    refine ⟨by show 0 ≤ sizeLine; decide, fun D2 nD2 => ?_⟩
    generalize hE2 : upd H1 D2 _ = H2
    have w2 : H2 D2 = some (.lst (([] : List Str).map V.str)) := new_at hE2
    have s2 := new_same hE2 nD2
    have nD2H : H D2 = none := s1.free nD2
    have ne : D ≠ D2 := ne_some w1 nD2
    have wlen := wn_len hN ns
    have htn : Tab (WRn H1 D2) kvs (ns.map fun n => (n, wn us ns n)) := ht.imp fun v w ys ⟨l, e, hl⟩ => ⟨l, e, ne_some hl nD2, hl⟩
    refine ⟨_, rfl, _, rfl, D, D2, kvs, ns, [], wn us ns, rfl, s2 _ _ w1, ht.imp fun v w ys r => WR.same r s2, hn, few, wlen, w2, fun v H3 s3 hv => ?_⟩
    refine ⟨fun m σ H' => Same H H' ∧ H' D = some (.dK kvs) ∧ Tab (WRn H' D2) kvs (ns.map fun n => (n, wn us ns n)) ∧ ∃ (order : List Str) (v : V), m + order.length = 17 ∧ FreeO (wt us) ns order ∧ H' D2 = some (.lst (order.map V.str)) ∧ NxO (wn us ns) ns order v ∧ σ = [some (.ref p), some (.ref l), some (.ref D), some (.ref D2), some v, none, none],
      ⟨17, s1.trans (s2.trans s3), s3 _ _ (s2 _ _ w1), htn.imp (fun v w ys r => WRn.same r (s2.trans s3)), [], v, rfl, FreeO.nil _, s3 _ _ w2, hv, rfl⟩, ?_⟩
    rintro m σ H4 ⟨s4, w4, ht4, order, v4, hm, hf, wo, hv4, rfl⟩
    rcases hv4 with ⟨rfl, fin⟩ | ⟨n, rfl, hns, hno, hall⟩
    · refine ⟨_, rfl, rfl, _, rfl, neF ⟨_, rfl, q order D2 H4 s4 nD2H wo hf fun n hn' ho => ?_⟩⟩
      obtain ⟨o, h1, h2⟩ := fin n hn' ho
      obtain ⟨h3, h4⟩ := List.mem_filter.mp h1
      exact ⟨o, h3, of_decide_eq_true h4, h2⟩
    · have hf2 : FreeO (wt us) ns (order ++ [n]) := hf.snoc hns hno fun o ho hs => hall o (List.mem_filter.mpr ⟨ho, decide_eq_true hs⟩)
      have hol : order.length + 1 ≤ 16 := by
        have := nodup_le (order ++ [n]) ns hf2.nd hf2.sub
        rw [List.length_append] at this
        have : order.length + 1 ≤ ns.length := this
        omega
      refine ⟨_, rfl, rfl, _, rfl, ?_⟩
      rw [decide_eq_false (show ¬ V.str n = V.non from fun z => nomatch z)]
      refine iteT ⟨fun σ' H' => Same H H' ∧ H' D = some (.dK kvs) ∧ Tab (WRn H' D2) kvs (ns.map fun n => (n, wn us ns n)) ∧ ∃ (order : List Str) (v : V), (m - 1) + order.length = 17 ∧ FreeO (wt us) ns order ∧ H' D2 = some (.lst (order.map V.str)) ∧ NxO (wn us ns) ns order v ∧ σ' = [some (.ref p), some (.ref l), some (.ref D), some (.ref D2), some v, none, none],
        fun σ' H' h => ⟨m - 1, by omega, h⟩, ?_⟩
      refine ⟨_, rfl, .inl ⟨rfl, _, SqL.of wo⟩, _, rfl, D2, _, _, rfl, rfl, wo, by rw [List.length_map]; exact small1000 (by omega), ?_⟩
      generalize hE5 : upd H4 D2 _ = H5
      have w5 : H5 D2 = some (.lst ((order ++ [n]).map V.str)) := by
        rw [List.map_append]
        exact new_at hE5
      have m5 := mut_keep hE5
      have ht5 : Tab (WRn H5 D2) kvs (ns.map fun n => (n, wn us ns n)) := ht4.imp fun v w ys r => WRn.keep r m5
      refine ⟨_, rfl, _, rfl, D, D2, kvs, ns, order ++ [n], wn us ns, rfl, m5 _ _ w4 ne, ht5.imp (fun v w ys r => WRn.wr r), hn, few, wlen, w5, fun v H6 s6 hv => ?_⟩
      refine ⟨(Same.own s4 m5 nD2H).trans s6, s6 _ _ (m5 _ _ w4 ne), ht5.imp fun v w ys r => WRn.same r s6, order ++ [n], v, ?_, hf2, s6 _ _ w5, hv, rfl⟩
      rw [List.length_append]
      show m - 1 + (order.length + 1) = 17
      omega
def sp_ring_in (K : PySem.W.Frag) : Sp := fun vs H Q _ => ∃ (p l : Addr) (us : List (Str × UF)) (ns : List Str), vs = [.ref p, .ref l] ∧ ShelfAt K H p us ∧ Nms us ∧ (∀ w, w ∉ wt us w) ∧ H l = some (.lst (ns.map V.str)) ∧ ns ≠ [] ∧ ns.Nodup ∧ (∀ n ∈ ns, n ∈ us.map (·.1)) ∧ (∀ n ∈ ns, ∃ o ∈ wt us n, o ∈ ns) ∧
  ∀ r D H', Same H H' → H D = none → H' D = some (.lst (r.map V.str)) → IsRing (wt us) ns r → Q (.ref D) H'
theorem ok_ring_in (T : Txt K mg) : FnOk P w K mg base CX0 4 (He.fAd K ("ring_in", none)) T.d_ring_in ["shelf", "stuck"] (sp_ring_in K) := by
  refine T.F_ring_in.ok sc_ring_in (fun vs H Q E h => ?_) (fun cdv A outer s H vs Q E hr h => ?_)
  · obtain ⟨p, l, us, ns, rfl, _⟩ := h
    rfl
  · obtain ⟨p, l, us, ns, rfl, hS, hN, self, hl, hne, hn, hsub, hst, q⟩ := h
    refine ⟨_, PSs.nox (pss_cons (ps_set (i := 2) sc_ring_in.nd rfl (Or.inl rfl) (pe_lst pa_nil))
      (pss_cons (ps_set (i := 3) sc_ring_in.nd rfl (Or.inl rfl) (pe_ix ix_list (pv 1) pe_int (fun _ _ => rfl)))
      (pss_cons (ps_while PassesOwn.never (pt_cmpR op_notIn_seq (pv 3) (pv 2) (by rfl))
      (pss_cons (ps_expr (pe_bm PySem.F.plainAttrs_list PySem.F.slot_list_append PySem.F.type_list_append mt_append (pv 2) (pa_cons (pv 3) pa_nil)))
      (pss_one (ps_set (i := 3) sc_ring_in.nd rfl (Or.inl rfl) (pe_ix ix_list (pe_lc (own := [("other", 4)]) (by rfl) sc_ring_in.nd (pi_list (pe_meth (pv 0) T.cl_Shelf T.me_Shelf_waited (ok_Shelf_waited T) (hr.mono (by decide)) T.b_Shelf_waited .nil pass0 (pa_cons (pv 3) pa_nil))) (blkOk_by (own := [("other", 4)]) (N := N_ring_in) (sc := defScope s_ring_in) (by decide +kernel)) (fun _ _ _ _ _ => (pg_name (i := 4) sc_ring_in.nd rfl (Or.inl rfl))) (fun _ _ _ _ _ => (pts_one (pt_cmpR (r := rIn K false) op_in_seq (pv 4) (pv 1) (by rfl)))) (fun _ _ _ _ _ => (pv 4))) pe_int (fun _ _ => rfl))))))
      (pss_one (ps_ret (pe_slice sl_list (pv 2) (po_some (pe_bm PySem.F.plainAttrs_list PySem.F.slot_list_index PySem.F.type_list_index mt_index (pv 2) (pa_cons (pv 3) pa_nil))) po_none)))))), ?_⟩
    have few : ns.length ≤ 16 := Nat.le_trans (nodup_le ns _ hn hsub) hN.len
    refine ⟨by show 0 ≤ sizeLine; decide, fun D nD => ?_⟩
    generalize hE1 : upd H D _ = H1
    have w1 : H1 D = some (.lst (([] : List Str).map V.str)) := new_at hE1
    have s1 := new_same hE1 nD
    have nlD : l ≠ D := ne_some hl nD
    obtain ⟨n0, rest, rfl⟩ := List.exists_cons_of_ne_nil hne
    refine ⟨_, rfl, l, _, _, _, rfl, rfl, SqL.of (s1 _ _ hl), at0, ?_⟩
    refine ⟨fun m σ H' => Same H H' ∧ ∃ (t : List Str) (n : Str), m + t.length = 17 ∧ Trail (wt us) (n0 :: rest) t n ∧ H' D = some (.lst (t.map V.str)) ∧ σ = [some (.ref p), some (.ref l), some (.ref D), some (.str n), none],
      ⟨17, s1, [], n0, rfl, Trail.start (List.mem_cons_self ..), w1, rfl⟩, ?_⟩
    rintro m σ H2 ⟨s2, t, n, hm, hT, w2, rfl⟩
    refine ⟨_, rfl, _, rfl, D, _, rfl, .inl (SqL.of w2), rfl, strs_flat _, _, rfl, ?_⟩
    show if (if true = true then !inV (.str n) (t.map V.str) else _) = true then _ else _
    rw [if_pos rfl, inV_str]
    by_cases c : n ∈ t
    · rw [decide_eq_true c]
      obtain ⟨j, hj, ej⟩ := List.getElem_of_mem c
      have hjn : t[j]? = some n := by rw [List.getElem?_eq_getElem hj, ej]
      refine iteF ⟨_, rfl, _, rfl, .inl ⟨rfl, _, SqL.of w2⟩, _, rfl, D, _, _, j, .str n, rfl, rfl, SqL.of w2, rfl, strs_flat _, by rw [List.getElem?_map, hjn]; rfl, by show (n == n) = true; exact beq_self_eq_true n, fun i z hi hz => ?_, _, rfl, D, _, rfl, SqL.of w2, fun R nR => ?_⟩
      · obtain ⟨x, hx, rfl⟩ := map_str_get hz
        show (x == n) = false
        refine beq_eq_false_iff_ne.mpr fun e => ?_
        rw [e] at hx
        have := (List.getElem?_inj (by omega) hT.nd).mp (hx.trans hjn.symm)
        omega
      · rw [cutV_from]
        exact q _ R _ (s2.trans (same_upd nR)) (s2.free nR) upd_same (hT.ring hjn (self n))
    · rw [decide_eq_false c]
      have htl : t.length + 1 ≤ 16 := by
        have := nodup_le (t ++ [n]) (n0 :: rest) (by
          rw [List.nodup_append]
          exact ⟨hT.nd, List.nodup_cons.mpr ⟨by simp, List.nodup_nil⟩, fun a ha b hb e => c (by rw [← List.mem_singleton.mp hb, ← e]; exact ha)⟩) fun x hx => by
            rcases List.mem_append.mp hx with hx | hx
            · exact hT.sub x hx
            · rw [List.mem_singleton.mp hx]
              exact hT.nx
        rw [List.length_append] at this
        have : t.length + 1 ≤ (n0 :: rest).length := this
        omega
      refine iteT ⟨fun σ' H' => Same H H' ∧ ∃ (t : List Str) (n : Str), (m - 1) + t.length = 17 ∧ Trail (wt us) (n0 :: rest) t n ∧ H' D = some (.lst (t.map V.str)) ∧ σ' = [some (.ref p), some (.ref l), some (.ref D), some (.str n), none],
        fun σ' H' h => ⟨m - 1, by omega, h⟩, ?_⟩
      refine ⟨_, rfl, .inl ⟨rfl, _, SqL.of w2⟩, _, rfl, D, _, _, rfl, rfl, w2, by rw [List.length_map]; exact small1000 (by omega), ?_⟩
      generalize hE3 : upd H2 D _ = H3
      have w3 : H3 D = some (.lst ((t ++ [n]).map V.str)) := by
        rw [List.map_append]
        exact new_at hE3
      have m3 := mut_keep hE3
      have s3 := Same.own s2 m3 nD
      have hS3 := hS.same s3
      obtain ⟨dx, d, kv0, hp, _⟩ := id hS3
      refine ⟨_, rfl, p, dx, _, rfl, hp, rfl, _, rfl, p, n, us, rfl, hS3, hN, hsub n hT.nx, fun wl H4 nwl s4 wwl => ?_⟩
      refine ⟨wl, rfl, ⟨_, SqL.of wwl⟩, fun D2 nD2 => ?_⟩
      refine lc_list (xs := (wt us n).map V.str) (fun j H' => Same H4 H' ∧ H' D2 = some (.lst ((((wt us n).take j).filter fun o => decide (o ∈ n0 :: rest)).map V.str))) ⟨same_upd nD2, upd_same⟩ (fun j H' _ h => SqL.of (h.1 _ _ wwl)) ?_ ?_
      · rintro j x H5 hj ⟨s5, w5⟩
        obtain ⟨o, hoo, rfl⟩ := map_str_get hj
        refine ⟨rfl, _, rfl, _, rfl, l, _, rfl, .inl (SqL.of (((s3.trans s4).trans s5) _ _ hl)), rfl, strs_flat _, _, rfl, ?_⟩
        rw [take_filter_snoc _ hoo, inV_str]
        by_cases c : o ∈ n0 :: rest
        · rw [decide_eq_true c]
          refine iteT ⟨_, rfl, _, w5, ?_, Same.own (q := D2) s5 (mut_keep rfl) nD2, ?_⟩
          · rw [List.length_map]
            refine Nat.lt_of_le_of_lt (List.length_filter_le _ _) (Nat.lt_of_le_of_lt (List.length_take_le' ..) (Nat.lt_of_le_of_lt (List.length_filter_le _ _) (small1000 ?_)))
            rw [srt_len]
            have := hN.len
            omega
          · rw [upd_same, if_pos rfl, List.map_append]
            rfl
        · rw [decide_eq_false c]
          refine iteF ⟨s5, ?_⟩
          rw [if_neg Bool.false_ne_true, List.append_nil]
          exact w5
      rintro H5 ⟨s5, w5⟩
      rw [List.length_map, List.take_length] at w5
      obtain ⟨o, ho, hos⟩ := hst n hT.nx
      have hmem : ∀ x ∈ (wt us n).filter fun o => decide (o ∈ n0 :: rest), x ∈ wt us n ∧ x ∈ n0 :: rest := fun x hx => ⟨(List.mem_filter.mp hx).1, of_decide_eq_true (List.mem_filter.mp hx).2⟩
      have hne2 : o ∈ (wt us n).filter fun o => decide (o ∈ n0 :: rest) := List.mem_filter.mpr ⟨ho, decide_eq_true hos⟩
      generalize (wt us n).filter (fun o => decide (o ∈ n0 :: rest)) = fs at w5 hmem hne2
      obtain ⟨f0, fr, rfl⟩ := List.exists_cons_of_ne_nil (List.ne_nil_of_mem hne2)
      obtain ⟨h1, h2⟩ := hmem f0 (List.mem_cons_self ..)
      refine ⟨D2, _, _, _, rfl, rfl, SqL.of w5, at0, ?_⟩
      refine ⟨s3.trans (s4.trans s5), t ++ [n], f0, ?_, hT.more c h2 h1, s5 _ _ (s4 _ _ w3), rfl⟩
      rw [List.length_append]
      show m - 1 + (t.length + 1) = 17
      omega
def sp_knot_in (K : PySem.W.Frag) : Sp := fun vs H Q _ => ∃ (p l : Addr) (us : List (Str × UF)) (ns : List Str), vs = [.ref p, .ref l] ∧ ShelfAt K H p us ∧ Nms us ∧ (∀ w, w ∉ wt us w) ∧ H l = some (.lst (ns.map V.str)) ∧ ns.Nodup ∧ (∀ n ∈ ns, n ∈ us.map (·.1)) ∧
  ∀ v H', Same H H' → ((v = .non ∧ ¬ Knotted (wt us) ns) ∨ ∃ r D, v = .ref D ∧ H D = none ∧ H' D = some (.lst (r.map V.str)) ∧ IsRing (wt us) ns r ∧ Knotted (wt us) ns) → Q v H'
theorem ok_knot_in (T : Txt K mg) : FnOk P w K mg base CX0 5 (He.fAd K ("knot_in", none)) T.d_knot_in ["shelf", "names"] (sp_knot_in K) := by
  refine T.F_knot_in.ok sc_knot_in (fun vs H Q E h => ?_) (fun cdv A outer s H vs Q E hr h => ?_)
  · obtain ⟨p, l, us, ns, rfl, _⟩ := h
    rfl
  · obtain ⟨p, l, us, ns, rfl, hS, hN, self, hl, hn, hsub, q⟩ := h
    refine ⟨_, PSs.nox (pss_cons (ps_set (i := 2) sc_knot_in.nd rfl (Or.inr rfl) (pe_call (ok_free_order T) (hr.mono (by decide)) (by rfl) T.m_free_order T.F_free_order.kp T.b_free_order .nil pass0 (pa_cons (pv 0) (pa_cons (pv 1) pa_nil))))
      (pss_cons (ps_setLc (i := 3) (own := [("name", 4)]) (by rfl) sc_knot_in.nd rfl rfl (sw_true rfl rfl rfl (by decide +kernel)) (pi_list (pv 1)) (blkOk_by (own := [("name", 4)]) (N := N_knot_in) (sc := defScope s_knot_in) (by decide +kernel)) (fun _ _ _ _ _ => (pg_name (i := 4) sc_knot_in.nd rfl (Or.inl rfl))) (fun _ _ _ _ _ => (pts_one (pt_cmpR (r := rIn K true) op_notIn_seq (pv 4) (pv 2) (by rfl)))) (fun _ _ _ _ _ => (pv 4)))
      (pss_one (ps_ret (pe_ifExp (pt_cmpR op_gt (pe_callB (id := "len")  call_len_seq (by rfl) T.n_len (by decide +kernel) (pa_cons (pv 3) pa_nil)) pe_int (nomark _)) (pe_call (ok_ring_in T) (hr.mono (by decide)) (by rfl) T.m_ring_in T.F_ring_in.kp T.b_ring_in .nil pass0 (pa_cons (pv 0) (pa_cons (pv 3) pa_nil))) pe_non))))), ?_⟩
    have few : ns.length ≤ 16 := Nat.le_trans (nodup_le ns _ hn hsub) hN.len
    refine ⟨_, rfl, _, rfl, p, l, us, ns, rfl, hS, hN, hl, hn, hsub, fun order D H1 s1 nD w1 hf hfin => ?_⟩
    -- stuck
    refine ⟨_, rfl, l, rfl, ⟨_, SqL.of (s1 _ _ hl)⟩, fun D2 nD2 => ?_⟩
    refine lc_list (xs := ns.map V.str) (fun j H' => Same H1 H' ∧ H' D2 = some (.lst (((ns.take j).filter fun o => decide (o ∉ order)).map V.str))) ⟨same_upd nD2, upd_same⟩ (fun j H' _ h => SqL.of ((s1.trans h.1) _ _ hl)) ?_ ?_
    · rintro j x H2 hj ⟨s2, w2⟩
      obtain ⟨o, hoo, rfl⟩ := map_str_get hj
      refine ⟨rfl, _, rfl, _, rfl, D, _, rfl, .inl (SqL.of (s2 _ _ w1)), rfl, strs_flat _, _, rfl, ?_⟩
      show if (if true = true then !inV (.str o) (order.map V.str) else _) = true then _ else _
      rw [if_pos rfl, inV_str, take_filter_snoc _ hoo]
      by_cases c : o ∈ order
      · rw [decide_eq_true c]
        refine iteF ⟨s2, ?_⟩
        rw [if_neg (by rw [decide_eq_false (fun z => z c)]; exact Bool.false_ne_true), List.append_nil]
        exact w2
      · rw [decide_eq_false c]
        refine iteT ⟨_, rfl, _, w2, ?_, Same.own (q := D2) s2 (mut_keep rfl) nD2, ?_⟩
        · rw [List.length_map]
          exact Nat.lt_of_le_of_lt (List.length_filter_le _ _) (Nat.lt_of_le_of_lt (List.length_take_le' ..) (small1000 (by omega)))
        · rw [upd_same, if_pos (decide_eq_true c), List.map_append]
          rfl
    rintro H2 ⟨s2, w2⟩
    rw [List.length_map, List.take_length] at w2
    have hmem : ∀ x, x ∈ (ns.filter fun o => decide (o ∉ order)) ↔ x ∈ ns ∧ x ∉ order := fun x => by
      rw [List.mem_filter]
      exact ⟨fun ⟨a, b⟩ => ⟨a, of_decide_eq_true b⟩, fun ⟨a, b⟩ => ⟨a, decide_eq_true b⟩⟩
    have hnd2 : (ns.filter fun o => decide (o ∉ order)).Nodup := List.Nodup.sublist List.filter_sublist hn
    generalize ns.filter (fun o => decide (o ∉ order)) = st at w2 hmem hnd2
    have s12 := s1.trans s2
    refine ⟨_, rfl, D2, _, rfl, .inl (SqL.of w2), _, _, rfl, rfl, _, rfl, ?_⟩
    rw [List.length_map]
    by_cases c : st = []
    · subst c
      refine iteNd (by decide) ?_
      refine q _ H2 s12 (.inl ⟨rfl, hf.no fun n hns => ?_⟩)
      rcases Classical.em (n ∈ order) with z | z
      · exact z
      · exact absurd ((hmem n).mpr ⟨hns, z⟩) (by simp)
    · have hpos : 0 < st.length := List.length_pos_iff.mpr c
      have hstep : ∀ n ∈ st, ∃ o ∈ wt us n, o ∈ st := fun n hns => by
        obtain ⟨h1, h2⟩ := (hmem n).mp hns
        obtain ⟨o, ho, h3, h4⟩ := hfin n h1 h2
        exact ⟨o, ho, (hmem o).mpr ⟨h3, h4⟩⟩
      refine iteYd (by omega) ?_
      refine ⟨_, rfl, _, rfl, p, D2, us, st, rfl, hS.same s12, hN, self, w2, c, hnd2, fun n hns => hsub n ((hmem n).mp hns).1, hstep, fun r R H3 s3 nR w3 hR => ?_⟩
      refine q _ H3 (s12.trans s3) (.inr ⟨r, R, rfl, s12.free nR, w3, ⟨hR.two, hR.nd, fun n hnr => ((hmem n).mp (hR.sub n hnr)).1, hR.step⟩, st, c, fun n hns => ((hmem n).mp hns).1, hstep⟩)

-- SPLIT
/-! ### neighbours by the facts, which may be walked over meanwhile -/
/-- behind a lock all is as ahead -/
theorem unlock {H H1 H2 H3 : Hp} {d : Addr} {u : HO} {o : Obj} (hd : H d = some u) (e1 : upd H d (.frz o u) = H1) (s : Same H1 H2) (e3 : upd H2 d u = H3) : Same H H3 := fun c x e => by
  by_cases c0 : c = d
  · subst c0
    rw [hd] at e
    cases e
    exact new_at e3
  · exact (mut_keep e3) _ _ (s _ _ ((mut_keep e1) _ _ e c0)) c0
/-- no unit bars itself -/
def NBr (us : List (Str × UF)) : Prop := ∀ p ∈ us, p.1 ∉ p.2.bars
/-- a list made of a walk over a dict, locked or not -/
theorem lkE_go {t : TE} {σ : L2.St} {H : Hp} {Q : VK} {d : Addr} {kvs : List (Key × V)} {xs : List V} (hd : Rd H d (.dK kvs))
    (core : ∀ H2 od, H2 d = some (.frz od (.dK kvs)) → Kp d H H2 → ∀ Q' : VK, (∀ l H', H2 l = none → Same H2 H' → H' l = some (.lst xs) → Q' (.ref l) H') → t σ H2 Q')
    (q : ∀ l H', H l = none → Same H H' → H' l = some (.lst xs) → Q (.ref l) H') : UX.tLkE t σ H Q := by
  rcases hd with hd | ⟨od, hd⟩
  · refine .inl ⟨d, _, hd, trivial, fun od => core _ od upd_same (mut_keep rfl) _ fun l H' nl s wl => ⟨s _ _ upd_same, ?_⟩⟩
    have ne : l ≠ d := fun e => by rw [e, upd_same] at nl; cases nl
    rw [upd_ne ne] at nl
    exact q l _ nl (unlock hd rfl s rfl) (by rw [upd_ne ne]; exact wl)
  · exact .inr (core H od hd (Kp.refl _ _) Q q)
theorem NotTp.rd {H : Hp} {q : Addr} {kvs : List (Key × V)} (h : Rd H q (.dK kvs)) : NotTp H q := by
  rcases h with h | ⟨o, h⟩
  · exact .dK h
  · exact NotTp.frz h
theorem DGet.rd {H : Hp} {q : Addr} {kvs : List (Key × V)} {w : Str} (h : Rd H q (.dK kvs)) : DGet H q (.str w) (valV kvs (Sum.inr w : Key)) := .inl ⟨kvs, Sum.inr w, h, rfl, rfl⟩
/-- the facts of a law, which may be locked -/
def LZ (K : PySem.W.Frag) (H : Hp) (d : Addr) (us : List (Str × UF)) : Prop := ∃ kvs, Rd H d (.dK kvs) ∧ FTab K H kvs us
theorem LF.z {H : Hp} {d : Addr} {us : List (Str × UF)} (h : LF K H d us) : LZ K H d us := by
  obtain ⟨kvs, h1, h2⟩ := h.ex
  exact ⟨kvs, .inl h1, h2⟩
theorem LZ.same {H H' : Hp} {d : Addr} {us : List (Str × UF)} (h : LZ K H d us) (s : Same H H') : LZ K H' d us := by
  obtain ⟨kvs, h1, h2⟩ := h
  exact ⟨kvs, h1.imp (s _ _) fun ⟨o, e⟩ => ⟨o, s _ _ e⟩, FTab.same h2 s⟩
def sp_law_needing (K : PySem.W.Frag) : Sp := fun vs H Q _ => ∃ (d : Addr) (w : Str) (us : List (Str × UF)), vs = [.ref d, .str w] ∧ LZ K H d us ∧ Nms us ∧
  ∀ l H', H l = none → Same H H' → H' l = some (.lst ((nd us w).map V.str)) → Q (.ref l) H'
theorem ok_law_needing (T : Txt K mg) : FnOk P w K mg base CX0 1 (He.fAd K ("_law_needing", none)) T.d_law_needing ["_law_facts_here", "_law_word"] (sp_law_needing K) := by
  refine T.F_law_needing.ok sc_law_needing (fun vs H Q E h => ?_) (fun cdv A outer s H vs Q E hr h => ?_)
  · obtain ⟨d, w, us, rfl, _⟩ := h
    rfl
  · obtain ⟨d, w, us, rfl, hF, hN, q⟩ := h
    refine ⟨_, PSs.nox (pss_one (ps_ret (pe_callB (id := "sorted")  cr_sortedS (by rfl) T.n_sorted (by decide +kernel) (pa_cons (UX.pe_lk (pe_lc (own := [("_law_one", 2)]) (by rfl) sc_law_needing.nd (pi_keys (pv 0)) (blkOk_by (own := [("_law_one", 2)]) (N := N_law_needing) (sc := defScope s_law_needing) (by decide +kernel)) (fun _ _ _ _ _ => (pg_name (i := 2) sc_law_needing.nd rfl (Or.inl rfl))) (fun _ _ _ _ _ => (pts_one (pt_cmpR (r := rIn K false) op_in_seq (pv 1) (pe_ix (r := rIxT K) ix_tup (pe_dget (hu_of hr) (pv 0) (pv 2) (fun _ _ => rfl)) pe_int (fun _ _ => rfl)) (by rfl)))) (fun _ _ _ _ _ => (pv 2)))) pa_nil)))), ?_⟩
    obtain ⟨kvs, hd, ht⟩ := hF
    refine lkE_go (xs := ((us.map (·.1)).filter (needB us w)).map V.str) hd (fun H2 od wd m2 Q' hq => ?_) fun D H4 nD s4 w4 => ?_
    rotate_left
    · refine ⟨D, _, rfl, SqL.of w4, ?_, fun ys p hy hs np => ?_⟩
      · refine Nat.lt_of_le_of_lt (List.length_filter_le _ _) ?_
        rw [List.length_map]
        have few := hN.few
        omega
      obtain rfl := srt_of hy hs
      rw [srt_filter]
      exact q p _ (s4.free np) (s4.trans (same_upd np)) upd_same
    have ht2 := FTab.keep ht m2 (NotTp.rd hd)
    refine ⟨_, rfl, d, od, rfl, .inl ⟨kvs, wd, fun D nD => ?_⟩⟩
    have ndD : d ≠ D := ne_some wd nD
    have few := hN.few
    refine lc_it walk_keys (fun i H' => Same H2 H' ∧ H' D = some (.lst ((((us.map (·.1)).take i).filter (needB us w)).map V.str))) ⟨same_upd nD, upd_same⟩ (fun i H' _ h => h.1 _ _ wd) ?_ ?_
    · rintro i x H3 H3' hi ⟨s3, w3⟩ ⟨rfl, k, v, hk, rfl⟩
      obtain ⟨o, uo, rfl, huo, r⟩ := ht2.at hk
      have hoo : (us.map (·.1))[i]? = some o := by rw [List.getElem?_map, huo]; rfl
      have huom := List.mem_of_getElem? huo
      have wb : needB us w o = decide (w ∈ uo.needs) := by
        unfold needB
        rw [fu_some hN.nd huom]
      obtain ⟨v2, hv2, t2, o1, o2, o3, o4, g2, rfl, wo0, wo1, _⟩ := ht2.get hN.nd (o, uo) huom
      refine ⟨rfl, _, rfl, _, rfl, _, rfl, d, .ref t2, rfl, by rw [← hv2]; exact .inl ⟨kvs, Sum.inr o, .inr ⟨od, s3 _ _ wd⟩, rfl, rfl⟩, t2, _, _, _, rfl, rfl, tup_same s3 wo0, at1, o1, _, rfl, .inr (tup_same s3 wo1), rfl, strs_flat _, _, rfl, ?_⟩
      rw [inV_str, take_filter_snoc _ hoo, wb]
      by_cases c : w ∈ uo.needs
      · rw [decide_eq_true c]
        refine iteT ⟨_, rfl, _, w3, ?_, Same.own (q := D) s3 (mut_keep rfl) nD, ?_⟩
        · rw [List.length_map]
          refine Nat.lt_of_le_of_lt (List.length_filter_le _ _) (Nat.lt_of_le_of_lt (List.length_take_le' ..) (small1000 ?_))
          rw [List.length_map]
          omega
        · rw [upd_same, if_pos rfl, List.map_append]
          rfl
      · rw [decide_eq_false c]
        refine iteF ⟨s3, ?_⟩
        rw [if_neg Bool.false_ne_true, List.append_nil]
        exact w3
    rintro H3 ⟨s3, w3⟩
    rw [ht.len, show us.length = (us.map (·.1)).length by rw [List.length_map], List.take_length] at w3
    exact hq D H3 nD s3 w3
def sp_law_barred (K : PySem.W.Frag) : Sp := fun vs H Q _ => ∃ (d : Addr) (w : Str) (us : List (Str × UF)), vs = [.ref d, .str w] ∧ LZ K H d us ∧ Nms us ∧ NBr us ∧ w ∈ us.map (·.1) ∧
  ∀ l H', H l = none → Same H H' → H' l = some (.lst ((br us w).map V.str)) → Q (.ref l) H'
theorem ok_law_barred (T : Txt K mg) : FnOk P w K mg base CX0 1 (He.fAd K ("_law_barred", none)) T.d_law_barred ["_law_facts_here", "_law_word"] (sp_law_barred K) := by
  refine T.F_law_barred.ok sc_law_barred (fun vs H Q E h => ?_) (fun cdv A outer s H vs Q E hr h => ?_)
  · obtain ⟨d, w, us, rfl, _⟩ := h
    rfl
  · obtain ⟨d, w, us, rfl, hF, hN, hB, hw, q⟩ := h
    refine ⟨_, PSs.nox (pss_one (ps_ret (pe_callB (id := "sorted")  cr_sortedS (by rfl) T.n_sorted (by decide +kernel) (pa_cons (UX.pe_lk (pe_lc (own := [("_law_one", 2)]) (by rfl) sc_law_barred.nd (pi_keys (pv 0)) (blkOk_by (own := [("_law_one", 2)]) (N := N_law_barred) (sc := defScope s_law_barred) (by decide +kernel)) (fun _ _ _ _ _ => (pg_name (i := 2) sc_law_barred.nd rfl (Or.inl rfl))) (fun _ _ _ _ _ => (pts_one (PW.pt (pw_and (pt_cmpR op_ne (pv 2) (pv 1) (nomark _)) (pw_and1 (PW.pt (pw_or (pt_cmpR (r := rIn K false) op_in_seq (pv 2) (pe_ix (r := rIxT K) ix_tup (pe_dget (hu_of hr) (pv 0) (pv 1) (fun _ _ => rfl)) pe_int (fun _ _ => rfl)) (by rfl)) (pw_or1 (pt_cmpR (r := rIn K false) op_in_seq (pv 1) (pe_ix (r := rIxT K) ix_tup (pe_dget (hu_of hr) (pv 0) (pv 2) (fun _ _ => rfl)) pe_int (fun _ _ => rfl)) (by rfl)))))))))) (fun _ _ _ _ _ => (pv 2)))) pa_nil)))), ?_⟩
    obtain ⟨kvs, hd, ht⟩ := hF
    obtain ⟨u, hfu, hu⟩ := fu_of hw hN.nd
    refine lkE_go (xs := ((us.map (·.1)).filter (barB us w)).map V.str) hd (fun H2 od wd m2 Q' hq => ?_) fun D H4 nD s4 w4 => ?_
    rotate_left
    · refine ⟨D, _, rfl, SqL.of w4, ?_, fun ys p hy hs np => ?_⟩
      · refine Nat.lt_of_le_of_lt (List.length_filter_le _ _) ?_
        rw [List.length_map]
        have few := hN.few
        omega
      obtain rfl := srt_of hy hs
      rw [srt_filter]
      exact q p _ (s4.free np) (s4.trans (same_upd np)) upd_same
    have ht2 := FTab.keep ht m2 (NotTp.rd hd)
    refine ⟨_, rfl, d, od, rfl, .inl ⟨kvs, wd, fun D nD => ?_⟩⟩
    have ndD : d ≠ D := ne_some wd nD
    have few := hN.few
    obtain ⟨v1, hv1, t1, q1, q2, q3, q4, g1, rfl, wq0, wq1, wq2, wq3, _⟩ := ht2.get hN.nd (w, u) hu
    refine lc_it walk_keys (fun i H' => Same H2 H' ∧ H' D = some (.lst ((((us.map (·.1)).take i).filter (barB us w)).map V.str))) ⟨same_upd nD, upd_same⟩ (fun i H' _ h => h.1 _ _ wd) ?_ ?_
    · rintro i x H3 H3' hi ⟨s3, w3⟩ ⟨rfl, k, v, hk, rfl⟩
      obtain ⟨o, uo, rfl, huo, r⟩ := ht2.at hk
      have hoo : (us.map (·.1))[i]? = some o := by rw [List.getElem?_map, huo]; rfl
      have huom := List.mem_of_getElem? huo
      have hfo := fu_some hN.nd huom
      have wb : barB us w o = (decide (o ∈ u.bars) || decide (w ∈ uo.bars)) := by
        unfold barB
        rw [hfu, hfo]
      have hll : ((((us.map (·.1)).take i).filter (barB us w)).map V.str).length < sizeLine := by
        rw [List.length_map]
        refine Nat.lt_of_le_of_lt (List.length_filter_le _ _) (Nat.lt_of_le_of_lt (List.length_take_le' ..) (small1000 ?_))
        rw [List.length_map]
        omega
      have yes : barB us w o = true → Same H2 (upd H3' D (.lst (((((us.map (·.1)).take i).filter (barB us w)).map V.str) ++ [.str o]))) ∧ (upd H3' D (.lst (((((us.map (·.1)).take i).filter (barB us w)).map V.str) ++ [.str o]))) D = some (.lst ((((us.map (·.1)).take (i + 1)).filter (barB us w)).map V.str)) := fun c => by
        refine ⟨Same.own (q := D) s3 (mut_keep rfl) nD, ?_⟩
        rw [upd_same, take_filter_snoc _ hoo, if_pos c, List.map_append]
        rfl
      have no : barB us w o = false → Same H2 H3' ∧ H3' D = some (.lst ((((us.map (·.1)).take (i + 1)).filter (barB us w)).map V.str)) := fun c => by
        refine ⟨s3, ?_⟩
        rw [take_filter_snoc _ hoo, if_neg (by rw [c]; exact Bool.false_ne_true), List.append_nil]
        exact w3
      refine ⟨rfl, _, rfl, _, rfl, rfl, _, rfl, ?_⟩
      show if (!decide (V.str o = V.str w)) = true then _ else _
      by_cases c0 : o = w
      · subst c0
        refine neF (no ?_)
        have e : uo = u := Option.some.inj (hfo.symm.trans hfu)
        rw [wb, e, decide_eq_false (hB _ hu)]
        rfl
      rw [decide_eq_false (show ¬ V.str o = V.str w from fun z => c0 (by injection z))]
      refine iteT ?_
      refine ⟨_, rfl, _, rfl, _, rfl, d, .ref t1, rfl, by rw [← hv1]; exact .inl ⟨kvs, Sum.inr w, .inr ⟨od, s3 _ _ wd⟩, rfl, rfl⟩, t1, _, _, _, rfl, rfl, tup_same s3 wq0, at3, q3, _, rfl, .inr (tup_same s3 wq3), rfl, strs_flat _, _, rfl, ?_⟩
      rw [show inV (kV (Sum.inr o)) (u.bars.map V.str) = decide (o ∈ u.bars) from inV_str _ _]
      by_cases c1 : o ∈ u.bars
      · rw [decide_eq_true c1] at wb ⊢
        exact iteT (iteT ⟨_, rfl, _, w3, hll, yes (by rw [wb]; rfl)⟩)
      rw [decide_eq_false c1] at wb ⊢
      obtain ⟨v2, hv2, t2, o1, o2, o3, o4, g2, rfl, wo0, wo1, wo2, wo3, _⟩ := ht2.get hN.nd (o, uo) huom
      refine iteF ⟨_, rfl, _, rfl, _, rfl, d, .ref t2, rfl, by rw [← hv2]; exact .inl ⟨kvs, Sum.inr o, .inr ⟨od, s3 _ _ wd⟩, rfl, rfl⟩, t2, _, _, _, rfl, rfl, tup_same s3 wo0, at3, o3, _, rfl, .inr (tup_same s3 wo3), rfl, strs_flat _, _, rfl, ?_⟩
      rw [inV_str]
      by_cases c3 : w ∈ uo.bars
      · rw [decide_eq_true c3] at wb ⊢
        exact iteT ⟨_, rfl, _, w3, hll, yes (by rw [wb]; rfl)⟩
      · rw [decide_eq_false c3] at wb ⊢
        exact iteF (no (by rw [wb]; rfl))
    rintro H3 ⟨s3, w3⟩
    rw [ht.len, show us.length = (us.map (·.1)).length by rw [List.length_map], List.take_length] at w3
    exact hq D H3 nD s3 w3

-- SPLIT
/-! ### for whom a unit waits, by the facts -/
theorem catA_any {H : Hp} {a b : Addr} {xs ys : List V} {Q : VK} (ha : SqT K H a xs) (hb : SqT K H b ys) (hl : xs.length + ys.length ≤ sizeLine) (q : ∀ t H', Same H H' → (H t = none ∨ H' = H) → SqT K H' t (xs ++ ys) → Q (.ref t) H') : rCatA K (.ref a) (.ref b) H Q := by
  refine ⟨a, b, xs, ys, rfl, rfl, ha, hb, hl, fun e => ?_, fun _ e => ?_, fun _ _ p np => ?_⟩
  · subst e
    exact q b H (Same.refl _) (.inr rfl) hb
  · subst e
    refine q a H (Same.refl _) (.inr rfl) ?_
    rw [List.append_nil]
    exact ha
  · exact q p _ (same_upd np) (.inl np) (SqT.of upd_same)
def sp_law_waited (K : PySem.W.Frag) : Sp := fun vs H Q _ => ∃ (d : Addr) (w : Str) (us : List (Str × UF)), vs = [.ref d, .str w] ∧ LZ K H d us ∧ Nms us ∧ (∀ p ∈ us, p.2.needs.length ≤ 100 ∧ p.2.after.length ≤ 100) ∧ w ∈ us.map (·.1) ∧
  ∀ l H', H l = none → Same H H' → H' l = some (.lst ((wt us w).map V.str)) → Q (.ref l) H'
theorem ok_law_waited (T : Txt K mg) : FnOk P w K mg base CX0 1 (He.fAd K ("_law_waited", none)) T.d_law_waited ["_law_facts_here", "_law_word"] (sp_law_waited K) := by
  refine T.F_law_waited.ok sc_law_waited (fun vs H Q E h => ?_) (fun cdv A outer s H vs Q E hr h => ?_)
  · obtain ⟨d, w, us, rfl, _⟩ := h
    rfl
  · obtain ⟨d, w, us, rfl, ⟨kvs, hd, ht⟩, hN, hlen, hw, q⟩ := h
    refine ⟨_, PSs.nox (pss_cons (ps_set (i := 2) sc_law_waited.nd rfl (Or.inr rfl) (pe_op op_catA (pe_ix ix_tup (pe_dget (hu_of hr) (pv 0) (pv 1) (fun _ _ => rfl)) pe_int (fun _ _ => rfl)) (pe_ix ix_tup (pe_dget (hu_of hr) (pv 0) (pv 1) (fun _ _ => rfl)) pe_int (fun _ _ => rfl))))
      (pss_one (ps_ret (pe_callB (id := "sorted")  cr_sortedS (by rfl) T.n_sorted (by decide +kernel) (pa_cons (UX.pe_lk (pe_lc (own := [("_law_one", 3)]) (by rfl) sc_law_waited.nd (pi_keys (pv 0)) (blkOk_by (own := [("_law_one", 3)]) (N := N_law_waited) (sc := defScope s_law_waited) (by decide +kernel)) (fun _ _ _ _ _ => (pg_name (i := 3) sc_law_waited.nd rfl (Or.inl rfl))) (fun _ _ _ _ _ => (pts_one (PW.pt (pw_or (pt_cmpR (r := rIn K false) op_in_seq (pv 3) (pv 2) (by rfl)) (pw_or1 (pt_cmpR op_eq (pe_ix (r := rIxT K) ix_tup (pe_dget (hu_of hr) (pv 0) (pv 3) (fun _ _ => rfl)) pe_int (fun _ _ => rfl)) (pv 1) (nomark _))))))) (fun _ _ _ _ _ => (pv 3)))) pa_nil))))), ?_⟩
    obtain ⟨u, hfu, hu⟩ := fu_of hw hN.nd
    obtain ⟨v, hv, t, n1, n2, n3, n4, g, rfl, wt0, wn1, wn2, wn3, wn4, hg⟩ := ht.get hN.nd (w, u) hu
    have hget : DGet H d (.str w) (some (.ref t)) := by
      rw [← hv]
      exact DGet.rd hd
    obtain ⟨l1, l2⟩ := hlen _ hu
    refine ⟨_, rfl, _, rfl, d, _, rfl, hget, t, _, _, _, rfl, rfl, wt0, at1, _, rfl, _, rfl, d, _, rfl, hget, t, _, _, _, rfl, rfl, wt0, at4, ?_⟩
    refine catA_any wn1 wn4 (by rw [List.length_map, List.length_map]; exact Nat.le_of_lt (small1000 (by omega))) fun tn H1 s1 _ wtn => ?_
    rw [← List.map_append] at wtn
    have hd1 : Rd H1 d (.dK kvs) := hd.imp (s1 _ _) fun ⟨o, e⟩ => ⟨o, s1 _ _ e⟩
    have ht1 := FTab.same ht s1
    refine lkE_go (xs := ((us.map (·.1)).filter (waitsB us w)).map V.str) hd1 (fun H2 od wd m2 Q' hq => ?_) fun D H4 nD s4 w4 => ?_
    rotate_left
    · refine ⟨D, _, rfl, SqL.of w4, ?_, fun ys p hy hs np => ?_⟩
      · refine Nat.lt_of_le_of_lt (List.length_filter_le _ _) ?_
        rw [List.length_map]
        have few := hN.few
        omega
      obtain rfl := srt_of hy hs
      rw [srt_filter]
      exact q p _ ((s1.trans s4).free np) ((s1.trans s4).trans (same_upd np)) upd_same
    have ht2 := FTab.keep ht1 m2 (NotTp.rd hd1)
    have wtn2 := m2.tup (NotTp.rd hd1) wtn
    refine ⟨_, rfl, d, od, rfl, .inl ⟨kvs, wd, fun D nD => ?_⟩⟩
    have ndD : d ≠ D := ne_some wd nD
    have few := hN.few
    refine lc_it walk_keys (fun i H' => Same H2 H' ∧ H' D = some (.lst ((((us.map (·.1)).take i).filter (waitsB us w)).map V.str))) ⟨same_upd nD, upd_same⟩ (fun i H' _ h => h.1 _ _ wd) ?_ ?_
    · rintro i x H3 H3' hi ⟨s3, w3⟩ ⟨rfl, k, v, hk, rfl⟩
      obtain ⟨o, uo, rfl, huo, r⟩ := ht2.at hk
      have hoo : (us.map (·.1))[i]? = some o := by rw [List.getElem?_map, huo]; rfl
      have huom := List.mem_of_getElem? huo
      have hfo : fu us o = some uo := fu_some hN.nd huom
      have wb : waitsB us w o = (decide (o ∈ u.needs ++ u.after) || decide (uo.opens = some w)) := by
        unfold waitsB
        rw [hfu, hfo]
        show (decide (o ∈ u.needs) || (decide (o ∈ u.after) || decide (uo.opens = some w))) = _
        rw [← Bool.or_assoc]
        congr 1
        by_cases c1 : o ∈ u.needs
        · rw [decide_eq_true c1, decide_eq_true (List.mem_append_left _ c1), Bool.true_or]
        · rw [decide_eq_false c1, Bool.false_or]
          exact decide_eq_decide.mpr ⟨List.mem_append_right _, fun z => (List.mem_append.mp z).resolve_left c1⟩
      have hll : ((((us.map (·.1)).take i).filter (waitsB us w)).map V.str).length < sizeLine := by
        rw [List.length_map]
        refine Nat.lt_of_le_of_lt (List.length_filter_le _ _) (Nat.lt_of_le_of_lt (List.length_take_le' ..) (small1000 ?_))
        rw [List.length_map]
        omega
      have yes : waitsB us w o = true → Same H2 (upd H3' D (.lst (((((us.map (·.1)).take i).filter (waitsB us w)).map V.str) ++ [.str o]))) ∧ (upd H3' D (.lst (((((us.map (·.1)).take i).filter (waitsB us w)).map V.str) ++ [.str o]))) D = some (.lst ((((us.map (·.1)).take (i + 1)).filter (waitsB us w)).map V.str)) := fun c => by
        refine ⟨Same.own (q := D) s3 (mut_keep rfl) nD, ?_⟩
        rw [upd_same, take_filter_snoc _ hoo, if_pos c, List.map_append]
        rfl
      have no : waitsB us w o = false → Same H2 H3' ∧ H3' D = some (.lst ((((us.map (·.1)).take (i + 1)).filter (waitsB us w)).map V.str)) := fun c => by
        refine ⟨s3, ?_⟩
        rw [take_filter_snoc _ hoo, if_neg (by rw [c]; exact Bool.false_ne_true), List.append_nil]
        exact w3
      refine ⟨rfl, _, rfl, _, rfl, tn, _, rfl, .inr (tup_same s3 wtn2), rfl, strs_flat _, _, rfl, ?_⟩
      rw [show inV (kV (Sum.inr o)) ((u.needs ++ u.after).map V.str) = decide (o ∈ u.needs ++ u.after) from inV_str _ _]
      by_cases c1 : o ∈ u.needs ++ u.after
      · rw [decide_eq_true c1] at wb ⊢
        exact iteT (iteT ⟨_, rfl, _, w3, hll, yes (by rw [wb]; rfl)⟩)
      rw [decide_eq_false c1] at wb ⊢
      obtain ⟨v2, hv2, t2, o1, o2, o3, o4, g2, rfl, wo0, _⟩ := ht2.get hN.nd (o, uo) huom
      refine iteF ⟨_, rfl, _, rfl, d, .ref t2, rfl, by rw [← hv2]; exact .inl ⟨kvs, Sum.inr o, .inr ⟨od, s3 _ _ wd⟩, rfl, rfl⟩, t2, _, _, _, rfl, rfl, tup_same s3 wo0, at5, _, rfl, scal_optV uo.opens (some w), _, rfl, ?_⟩
      rw [show decide (optV uo.opens = V.str w) = decide (uo.opens = some w) from dec_optV (y := some w)]
      by_cases c3 : uo.opens = some w
      · rw [decide_eq_true c3] at wb ⊢
        exact iteT ⟨_, rfl, _, w3, hll, yes (by rw [wb]; rfl)⟩
      · rw [decide_eq_false c3] at wb ⊢
        exact iteF (no (by rw [wb]; rfl))
    rintro H3 ⟨s3, w3⟩
    rw [ht.len, show us.length = (us.map (·.1)).length by rw [List.length_map], List.take_length] at w3
    exact hq D H3 nD s3 w3

-- SPLIT
/-! ### a shelf with a unit: the pure side -/
/-- all but the one of this name -/
def oth (us : List (Str × UF)) (w : Str) : List (Str × UF) := us.filter fun p => decide (p.1 ≠ w)
/-- with a unit: in the place of that of its name, at the end -/
def wu (us : List (Str × UF)) (w : Str) (u : UF) : List (Str × UF) := oth us w ++ [(w, u)]
/-- the facts with those of a unit -/
def fput (us : List (Str × UF)) (w : Str) (u : UF) : List (Str × UF) := if w ∈ us.map (·.1) then setU us w u else us ++ [(w, u)]
theorem oth_mem {us : List (Str × UF)} {w : Str} {p : Str × UF} : p ∈ oth us w ↔ p ∈ us ∧ p.1 ≠ w := by
  unfold oth
  rw [List.mem_filter, decide_eq_true_iff]
theorem oth_out {us : List (Str × UF)} {w : Str} (h : w ∉ us.map (·.1)) : oth us w = us :=
  List.filter_eq_self.mpr fun p hp => decide_eq_true fun e => h (e ▸ List.mem_map_of_mem hp)
theorem oth_len {us : List (Str × UF)} {w : Str} (hn : (us.map (·.1)).Nodup) (h : w ∈ us.map (·.1)) : (oth us w).length + 1 = us.length := by
  induction us with
  | nil => cases h
  | cons p us ih =>
    obtain ⟨n1, n2⟩ := List.nodup_cons.mp hn
    by_cases c : p.1 = w
    · have e : oth (p :: us) w = oth us w := List.filter_cons_of_neg (by simp [c])
      rw [e, oth_out (c ▸ n1)]
      rfl
    · have e : oth (p :: us) w = p :: oth us w := List.filter_cons_of_pos (by simp [c])
      have := ih n2 ((List.mem_cons.mp h).resolve_left (fun e => c e.symm))
      rw [e, List.length_cons, List.length_cons]
      omega
theorem wu_mem {us : List (Str × UF)} {w : Str} {u : UF} {p : Str × UF} : p ∈ wu us w u ↔ (p ∈ us ∧ p.1 ≠ w) ∨ p = (w, u) := by
  unfold wu
  rw [List.mem_append, oth_mem, List.mem_singleton]
theorem wu_nd {us : List (Str × UF)} {w : Str} {u : UF} (hn : (us.map (·.1)).Nodup) : ((wu us w u).map (·.1)).Nodup := by
  unfold wu
  rw [List.map_append]
  refine List.nodup_append.mpr ⟨hn.sublist (List.filter_sublist.map _), List.nodup_cons.mpr ⟨(fun z => nomatch z), List.nodup_nil⟩, fun x hx y hy => ?_⟩
  obtain ⟨p, hp, rfl⟩ := List.mem_map.mp hx
  obtain rfl := List.mem_singleton.mp hy
  exact (oth_mem.mp hp).2
theorem wu_len {us : List (Str × UF)} {w : Str} {u : UF} (hn : (us.map (·.1)).Nodup) : (wu us w u).length = if w ∈ us.map (·.1) then us.length else us.length + 1 := by
  unfold wu
  rw [List.length_append]
  split
  · rename_i h
    rw [← oth_len hn h]
    rfl
  · rename_i h
    rw [oth_out h]
    rfl
theorem fput_mem {us : List (Str × UF)} {w : Str} {u : UF} {p : Str × UF} : p ∈ fput us w u ↔ (p ∈ us ∧ p.1 ≠ w) ∨ p = (w, u) := by
  unfold fput
  split
  · rename_i h
    unfold setU
    rw [List.mem_map]
    constructor
    · rintro ⟨q, hq, rfl⟩
      by_cases c : q.1 = w
      · rw [if_pos c]
        exact .inr rfl
      · rw [if_neg c]
        exact .inl ⟨hq, c⟩
    · rintro (⟨h1, h2⟩ | rfl)
      · exact ⟨p, h1, if_neg h2⟩
      · obtain ⟨q, hq, e⟩ := List.mem_map.mp h
        exact ⟨q, hq, if_pos e⟩
  · rename_i h
    rw [List.mem_append, List.mem_singleton]
    constructor
    · rintro (z | z)
      · exact .inl ⟨z, fun e => h (e ▸ List.mem_map_of_mem z)⟩
      · exact .inr z
    · rintro (z | z)
      · exact .inl z.1
      · exact .inr z
theorem fput_nd {us : List (Str × UF)} {w : Str} {u : UF} (hn : (us.map (·.1)).Nodup) : ((fput us w u).map (·.1)).Nodup := by
  unfold fput
  split
  · rw [setU_names]
    exact hn
  · rename_i h
    rw [List.map_append]
    refine List.nodup_append.mpr ⟨hn, List.nodup_cons.mpr ⟨(fun z => nomatch z), List.nodup_nil⟩, fun x hx y hy => ?_⟩
    obtain rfl := List.mem_singleton.mp hy
    exact fun e => h (e ▸ hx)
theorem nd_of {us : List (Str × UF)} (hn : (us.map (·.1)).Nodup) : us.Nodup := (List.pairwise_map.mp hn).imp fun h e => h (congrArg Prod.fst e)
theorem wu_perm {us vs : List (Str × UF)} {w : Str} {u : UF} (hu : (us.map (·.1)).Nodup) (hv : (vs.map (·.1)).Nodup) (p : us.Perm vs) : (wu us w u).Perm (fput vs w u) :=
  (List.perm_ext_iff_of_nodup (nd_of (wu_nd hu)) (nd_of (fput_nd hv))).mpr fun q => by
    rw [wu_mem, fput_mem, p.mem_iff]
theorem pnames {us vs : List (Str × UF)} (p : us.Perm vs) (w : Str) : w ∈ us.map (·.1) ↔ w ∈ vs.map (·.1) := (p.map (·.1)).mem_iff
theorem psrt {us vs : List (Str × UF)} (p : us.Perm vs) : srt (us.map (·.1)) = srt (vs.map (·.1)) := srt_uniq ((srt_perm _).trans (p.map _)) (srt_pw _)
theorem fu_out {us : List (Str × UF)} {w : Str} (h : w ∉ us.map (·.1)) : fu us w = none := by
  unfold fu
  rw [List.find?_eq_none.mpr fun p hp => by
    rw [decide_eq_true_iff]
    exact fun e => h (e ▸ List.mem_map_of_mem hp)]
  rfl
theorem pfu {us vs : List (Str × UF)} (p : us.Perm vs) (hu : (us.map (·.1)).Nodup) (hv : (vs.map (·.1)).Nodup) : fu us = fu vs := by
  funext w
  by_cases c : w ∈ us.map (·.1)
  · obtain ⟨u, e, m⟩ := fu_of c hu
    rw [e]
    exact (fu_some hv (p.mem_iff.mp m)).symm
  · rw [fu_out c, fu_out (fun z => c ((pnames p w).mpr z))]
theorem pnd {us vs : List (Str × UF)} (p : us.Perm vs) (hu : (us.map (·.1)).Nodup) (hv : (vs.map (·.1)).Nodup) (w : Str) : nd us w = nd vs w := by
  unfold nd
  rw [psrt p, show needB us w = needB vs w by funext o; unfold needB; rw [pfu p hu hv]]
theorem pbr {us vs : List (Str × UF)} (p : us.Perm vs) (hu : (us.map (·.1)).Nodup) (hv : (vs.map (·.1)).Nodup) (w : Str) : br us w = br vs w := by
  unfold br
  rw [psrt p, show barB us w = barB vs w by funext o; unfold barB; rw [pfu p hu hv]]
theorem pwt {us vs : List (Str × UF)} (p : us.Perm vs) (hu : (us.map (·.1)).Nodup) (hv : (vs.map (·.1)).Nodup) (w : Str) : wt us w = wt vs w := by
  unfold wt
  rw [psrt p, show waitsB us w = waitsB vs w by funext o; unfold waitsB; rw [pfu p hu hv]]
theorem nodup_front {ns : List Str} (nd : ns.Nodup) {i : Nat} {x : Str} (h : ns[i]? = some x) : x ∉ ns.take i := fun z => by
  obtain ⟨lt, rfl⟩ := List.getElem?_eq_some_iff.mp h
  obtain ⟨j, hj, e2⟩ := List.getElem_of_mem z
  rw [List.length_take] at hj
  rw [List.getElem_take] at e2
  have := (List.getElem_inj nd).mp e2
  omega
theorem wu_nms {us : List (Str × UF)} {w : Str} {u : UF} (h : Nms us) (hw : Nm w) (room : w ∈ us.map (·.1) ∨ us.length ≠ 16) : Nms (wu us w u) := by
  refine ⟨wu_nd h.nd, ?_, fun x hx => ?_⟩
  · rw [wu_len h.nd]
    have := h.few
    split
    · exact this
    · rename_i c
      have := room.resolve_left c
      omega
  · obtain ⟨p, hp, rfl⟩ := List.mem_map.mp hx
    rcases wu_mem.mp hp with ⟨hp, _⟩ | rfl
    · exact h.nm _ (List.mem_map_of_mem hp)
    · exact hw
theorem perm_nms {us vs : List (Str × UF)} (h : Nms us) (p : us.Perm vs) : Nms vs := ⟨(p.map (·.1)).nodup_iff.mp h.nd, p.length_eq ▸ h.few, fun x hx => h.nm x ((pnames p x).mpr hx)⟩

-- SPLIT
/-! ### a shelf with a unit put -/
def sp_Shelf_with_unit (K : PySem.W.Frag) : Sp := fun vs H Q _ => ∃ (p b : Addr) (us : List (Str × UF)) (w : Str) (u : UF), vs = [.ref p, .ref b] ∧ ShelfAt K H p us ∧ Nms us ∧ UnitAt K H b w u ∧ Nms (wu us w u) ∧
  ∀ x H', H x = none → Same H H' → ShelfAt K H' x (wu us w u) → Q (.ref x) H'
theorem ok_Shelf_with_unit (T : Txt K mg) : FnOk P w K mg base CX0 3 (He.fAd K ("Shelf", some "with_unit")) T.d_Shelf_with_unit ["self", "unit"] (sp_Shelf_with_unit K) := by
  refine T.F_Shelf_with_unit.ok sc_Shelf_with_unit (fun vs H Q E h => ?_) (fun cdv A outer s H vs Q E hr h => ?_)
  · obtain ⟨p, b, us, w, u, rfl, _⟩ := h
    rfl
  · obtain ⟨p, b, us, w, u, rfl, hS, hN, hB, hNw, q⟩ := h
    refine ⟨_, PSs.nox (pss_cons (ps_lock (ps_setLc (i := 2) (own := [("name", 3)]) (by rfl) sc_Shelf_with_unit.nd rfl rfl (sw_true rfl rfl rfl (by decide +kernel)) (pi_keys (pe_fld (pv 0) rfl)) (blkOk_by (own := [("name", 3)]) (N := N_Shelf_with_unit) (sc := defScope s_Shelf_with_unit) (by decide +kernel)) (fun _ _ _ _ _ => (pg_name (i := 3) sc_Shelf_with_unit.nd rfl (Or.inl rfl))) (fun _ _ _ _ _ => by exact (pts_one (pt_cmpR op_ne (pv 3) (UP.pe_fldK (K := K) (by rfl) (pv 1) (by rfl)) (nomark _)))) (fun _ _ _ _ _ => by exact (pe_dget (hu_of hr) (UP.pe_fldK (K := K) (by rfl) (pv 0) (by rfl)) (pv 3) (fun _ _ => rfl)))))
      (pss_one (ps_ret (pe_make T.mk_Shelf (ok_Shelf_init T) (hr.mono (by decide)) (by rfl) T.m_Shelf T.b2_Shelf_init .nil pass0 (pa_cons (pe_lst (StX.pa_star (pv 2) (pa_cons (pv 1) pa_nil))) pa_nil))))), ?_⟩
    obtain ⟨dx, d, kvs, hp, hd, ht⟩ := id hS
    obtain ⟨dxu, n1, n2, n3, n4, r, hb, _⟩ := id hB
    have few := hN.few
    refine ⟨d, _, hd, trivial, fun od => ?_⟩
    generalize hE2 : upd H d _ = H2
    have wd := new_at hE2
    have m2 := mut_keep hE2
    have hb2 := m2 _ _ hb (fun e => by rw [e, hd] at hb; cases hb)
    have hp2 := m2 _ _ hp (fun e => by rw [e, hd] at hp; cases hp)
    have ht2 : UTab K H2 kvs us := ht.imp fun v w u ⟨a, e, r⟩ => ⟨a, e, r.keepN m2 (.dK hd) (.dK hd)⟩
    have hB2 := hB.keepN m2 (.dK hd) (.dK hd)
    refine ⟨_, rfl, p, _, dx, _, _, rfl, hp2, T.cl_Shelf, T.na_Shelf_by_name, rfl, d, od, rfl, .inl ⟨kvs, wd, fun D nD => ?_⟩⟩
    have ndD : d ≠ D := ne_some wd nD
    refine lc_it walk_keys (fun i H' => Same H2 H' ∧ ∃ xs, H' D = some (.lst xs) ∧ ULs K H' xs (oth (us.take i) w)) ⟨same_upd nD, [], upd_same, .nil⟩ (fun i H' _ h => h.1 _ _ wd) ?_ ?_
    · rintro i x H3 H3' hi ⟨s3, xs, w3, hU⟩ ⟨rfl, k, v, hk, rfl⟩
      obtain ⟨o, uo, rfl, huo, r⟩ := ht2.at hk
      obtain ⟨v2, hv2, a, rfl, hA⟩ := ht2.get hN.nd (o, uo) (List.mem_of_getElem? huo)
      refine ⟨rfl, _, rfl, _, rfl, b, _, dxu, _, _, rfl, s3 _ _ hb2, T.cl_Unit, T.na_Unit_name, rfl, rfl, _, rfl, ?_⟩
      have step : oth (us.take (i + 1)) w = oth (us.take i) w ++ if o = w then [] else [(o, uo)] := by
        rw [take_snoc huo]
        unfold oth
        rw [List.filter_append]
        by_cases c : o = w
        · rw [if_pos c, List.filter_cons_of_neg (by simp [c])]
          rfl
        · rw [if_neg c, List.filter_cons_of_pos (by simp [c])]
          rfl
      show if (!decide (V.str o = V.str w)) = true then _ else _
      by_cases c0 : o = w
      · rw [if_pos c0, List.append_nil] at step
        subst c0
        refine neF ⟨s3, xs, w3, ?_⟩
        rw [step]
        exact hU
      rw [if_neg c0] at step
      rw [decide_eq_false (show ¬ V.str o = V.str w from fun z => c0 (by injection z))]
      refine iteT ?_
      refine ⟨_, rfl, p, _, dx, _, _, rfl, s3 _ _ hp2, T.cl_Shelf, T.na_Shelf_by_name, rfl, _, rfl, d, .ref a, rfl, by rw [← hv2]; exact .inl ⟨kvs, Sum.inr o, .inr ⟨od, s3 _ _ wd⟩, rfl, rfl⟩, _, w3, ?_, ?_⟩
      · rw [hU.len]
        exact Nat.lt_of_le_of_lt (List.length_filter_le _ _) (Nat.lt_of_le_of_lt (List.length_take_le' ..) (small1000 (by omega)))
      generalize hE4 : upd H3' D _ = H4
      have m4 := mut_keep hE4
      refine ⟨Same.own s3 m4 nD, _, new_at hE4, ?_⟩
      rw [step]
      exact (hU.keepN m4 (.lst w3) (.lst w3)).app (.cons ((hA.same s3).keepN m4 (.lst w3) (.lst w3)) .nil)
    rintro H3 ⟨s3, xs, w3, hU⟩
    rw [ht.len, List.take_length] at hU
    have wd3 := s3 _ _ wd
    refine ⟨wd3, ?_⟩
    generalize hE4 : upd H3 d _ = H4
    have m4 := mut_keep hE4
    have s4 : Same H H4 := unlock hd hE2 s3 hE4
    have w4 := m4 _ _ w3 ndD.symm
    have hU4 : ULs K H4 xs (oth us w) := hU.keepN m4 (NotTp.frz wd3) fun C dx f fs z => by rw [wd3] at z; cases z
    have hB4 := hB.same s4
    have hxl : xs.length ≤ 16 := by
      rw [hU4.len]
      exact Nat.le_trans (List.length_filter_le _ _) few
    refine ⟨_, rfl, D, xs, rfl, .inr (SqL.of w4), _, rfl, ?_, fun l nl => ?_⟩
    · rw [List.length_append]
      exact Nat.le_of_lt (small1000 (show xs.length + 1 ≤ 1000 by omega))
    generalize hE5 : upd H4 l _ = H5
    have w5 := new_at hE5
    have s5 := new_same hE5 nl
    have hU5 : ULs K H5 (xs ++ [.ref b]) (wu us w u) := (hU4.same s5).app (.cons (hB4.same s5) .nil)
    have s15 := s4.trans s5
    refine fun x dx' nx ndx nex => ?_
    have sn : Same H5 (upd (upd H5 dx' (.own x)) x (.ins (He.ga K "Shelf") dx' [])) := Same.made nx ndx fun b o e _ => e
    refine ⟨x, dx', l, _, _, rfl, upd_same, .inl (SqL.of (sn _ _ w5)), hU5.same sn, hNw, fun H6 hSh kp6 => ⟨rfl, ?_⟩⟩
    exact q x H6 (s15.free nx) (s15.trans (Same.made nx ndx fun b o e n => kp6 b o e n)) hSh

-- SPLIT
theorem wd_ok {us : List (Str × UF)} (hN : Nms us) {d : Str × Str} (h : WD us d) : Ok2 d := ⟨(hN.nm _ h.1).ok, h.2.elim (fun e => by rw [e]; exact ok_on) fun e => by rw [e]; exact ok_off⟩
theorem prH_last {H : Hp} {xs : List V} {ds : List (Str × Str)} (h : PrH H xs ds) (n : ds ≠ []) : ∃ t d xs' ds', xs = xs' ++ [.ref t] ∧ ds = ds' ++ [d] ∧ H t = some (.tup [.str d.1, .str d.2]) ∧ PrH H xs' ds' := by
  induction h with
  | nil => exact absurd rfl n
  | @cons t d xs ds a p ih =>
    by_cases c : ds = []
    · subst c
      cases p
      exact ⟨t, d, [], [], rfl, rfl, a, .nil⟩
    · obtain ⟨t2, d2, xs', ds', rfl, rfl, a2, p2⟩ := ih c
      exact ⟨t2, d2, .ref t :: xs', d :: ds', rfl, rfl, a2, .cons a p2⟩
theorem small4000 {n : Nat} (h : n ≤ 5000) : n < sizeLine := Nat.lt_of_le_of_lt h (by decide)

/-! ### lists of texts, and of pairs of texts -/
abbrev TP := Str ⊕ (Str × Str)
def encM : TP → PyData
  | .inl x => .str x
  | .inr d => enc2 d
inductive MxH (H : Hp) : List V → List TP → Prop
  | nil : MxH H [] []
  | str {x : Str} {xs : List V} {ms : List TP} : MxH H xs ms → MxH H (.str x :: xs) (.inl x :: ms)
  | tup {t : Addr} {d : Str × Str} {xs : List V} {ms : List TP} : H t = some (.tup [.str d.1, .str d.2]) → MxH H xs ms → MxH H (.ref t :: xs) (.inr d :: ms)
section
variable {H H' : Hp} {xs ys : List V} {ms ns : List TP}
theorem MxH.same (h : MxH H xs ms) (s : Same H H') : MxH H' xs ms := by
  induction h with
  | nil => exact .nil
  | str _ ih => exact .str ih
  | tup a _ ih => exact .tup (s _ _ a) ih
theorem MxH.keep {q : Addr} (h : MxH H xs ms) (k : Kp q H H') (n : NotTup H q) : MxH H' xs ms := by
  induction h with
  | nil => exact .nil
  | str _ ih => exact .str ih
  | tup a _ ih => exact .tup (k _ _ a (n.ne a)) ih
theorem MxH.len (h : MxH H xs ms) : xs.length = ms.length := by
  induction h with
  | nil => rfl
  | str _ ih => rw [List.length_cons, List.length_cons, ih]
  | tup _ _ ih => rw [List.length_cons, List.length_cons, ih]
theorem MxH.app (h : MxH H xs ms) (g : MxH H ys ns) : MxH H (xs ++ ys) (ms ++ ns) := by
  induction h with
  | nil => exact g
  | str _ ih => exact .str ih
  | tup a _ ih => exact .tup a ih
theorem MxH.dp (h : MxH H xs ms) : DpAll K H xs (ms.map encM) := by
  induction h with
  | nil => exact .nil
  | str _ ih => exact .cons (.str _) ih
  | tup a _ ih => exact .cons (.tup (.of a) (.cons (.str _) (.cons (.str _) .nil))) ih
theorem mx_strs (zs : List Str) : MxH H (zs.map V.str) (zs.map Sum.inl) := by
  induction zs with
  | nil => exact .nil
  | cons z zs ih => exact .str ih
theorem mx_prs {ds : List (Str × Str)} (h : PrH H xs ds) : MxH H xs (ds.map Sum.inr) := by
  induction h with
  | nil => exact .nil
  | cons a _ ih => exact .tup a ih
end
def OkM : TP → Prop
  | .inl x => PyData.strOk x = true ∧ x.length ≤ 100
  | .inr d => Ok2 d ∧ d.1.length ≤ 100 ∧ d.2.length ≤ 100
/-- such a list can be shown -/
def MsOk (ms : List TP) : Prop := (∀ m ∈ ms, OkM m) ∧ ms.length ≤ 200
abbrev dataM (ms : List TP) : PyData := .list (ms.map encM)
theorem showM : ∀ ms : List TP, PyData.showableAll (ms.map encM) = true ∧ PyData.hasDictAll (ms.map encM) = false ∧ PyData.intsShortAll 13 (ms.map encM) = true
  | [] => ⟨by simp only [List.map_nil, PyData.showableAll], by simp only [List.map_nil, PyData.hasDictAll], by simp only [List.map_nil, PyData.intsShortAll]⟩
  | .inl x :: ms => by
    obtain ⟨a, b, c⟩ := showM ms
    refine ⟨?_, ?_, ?_⟩
    · simp only [List.map_cons, encM, PyData.showableAll, PyData.showable, a, Bool.and_self]
    · simp only [List.map_cons, encM, PyData.hasDictAll, PyData.hasDict, b, Bool.or_self]
    · simp only [List.map_cons, encM, PyData.intsShortAll, PyData.intsShort, c, Bool.and_self]
  | .inr d :: ms => by
    obtain ⟨a, b, c⟩ := showM ms
    refine ⟨?_, ?_, ?_⟩
    · simp only [List.map_cons, encM, enc2, PyData.showableAll, PyData.showable, a, Bool.and_self]
    · simp only [List.map_cons, encM, enc2, PyData.hasDictAll, PyData.hasDict, b, Bool.or_self]
    · simp only [List.map_cons, encM, enc2, PyData.intsShortAll, PyData.intsShort, c, Bool.and_self]
theorem layM : ∀ {ms : List TP}, (∀ m ∈ ms, OkM m) → PyData.canLayAll0 (ms.map encM) = true ∧ PyData.depthAll (ms.map encM) ≤ 1
  | [], _ => ⟨by simp only [List.map_nil, PyData.canLayAll0], by simp only [List.map_nil, PyData.depthAll]; decide⟩
  | .inl x :: ms, h => by
    obtain ⟨a, b⟩ := layM fun e he => h e (List.mem_cons_of_mem _ he)
    have h1 : PyData.strOk x = true := (h (.inl x) (List.mem_cons_self ..)).1
    refine ⟨?_, ?_⟩
    · simp only [List.map_cons, encM, PyData.canLayAll0, PyData.canLay0, a, h1, Bool.and_self]
    · simp only [List.map_cons, encM, PyData.depthAll, PyData.depth]
      omega
  | .inr d :: ms, h => by
    obtain ⟨a, b⟩ := layM fun e he => h e (List.mem_cons_of_mem _ he)
    obtain ⟨h1, h2⟩ := lay2 (h (.inr d) (List.mem_cons_self ..)).1
    refine ⟨?_, ?_⟩
    · simp only [List.map_cons, encM, PyData.canLayAll0, a, h1, Bool.and_self]
    · simp only [List.map_cons, encM, PyData.depthAll, h2]
      omega
theorem weighM : ∀ {ms : List TP}, (∀ m ∈ ms, OkM m) → PyData.weightAll (ms.map encM) ≤ 300 * ms.length
  | [], _ => by simp only [List.map_nil, PyData.weightAll]; omega
  | .inl x :: ms, h => by
    have ih := weighM fun e he => h e (List.mem_cons_of_mem _ he)
    have h1 : x.cps.size ≤ 100 := (h (.inl x) (List.mem_cons_self ..)).2
    simp only [List.map_cons, encM, PyData.weightAll, PyData.weight, List.length_cons]
    omega
  | .inr d :: ms, h => by
    have ih := weighM fun e he => h e (List.mem_cons_of_mem _ he)
    obtain ⟨_, h1, h2⟩ := h (.inr d) (List.mem_cons_self ..)
    have h1 : d.1.cps.size ≤ 100 := h1
    have h2 : d.2.cps.size ≤ 100 := h2
    simp only [List.map_cons, encM, enc2, PyData.weightAll, PyData.weight, List.length_cons]
    omega
theorem shortM {ms : List TP} (h : MsOk ms) : (dataM ms).showable = true ∧ (dataM ms).hasDict = false ∧ (dataM ms).depth ≤ 64 ∧ (dataM ms).shown.length ≤ sizeLine := by
  obtain ⟨a, b, c⟩ := showM ms
  obtain ⟨l1, l2⟩ := layM h.1
  have dep : (dataM ms).depth ≤ 64 := by
    simp only [PyData.depth]
    omega
  have lay : (dataM ms).canLay0 = true := by
    simp only [PyData.canLay0]
    exact l1
  have wt : (dataM ms).weight ≤ 2 ^ 20 := by
    have := weighM h.1
    have := h.2
    simp only [PyData.weight]
    omega
  have fit : PyData.layable0 (dataM ms) = true := by
    unfold PyData.layable0
    rw [lay, decide_eq_true dep, decide_eq_true wt]
    rfl
  exact ⟨by simp only [PyData.showable]; exact a, by simp only [PyData.hasDict]; exact b, dep, Nat.le_trans (PyProof.Rows.shown_le13 fit (by simp only [PyData.intsShort]; exact c)) (by decide)⟩
/-! ### what is told of a shelf -/
theorem ok_nm {us : List (Str × UF)} (hN : Nms us) {zs : List Str} (h : ∀ z ∈ zs, z ∈ us.map (·.1)) (l : zs.length ≤ 16) : MsOk (zs.map Sum.inl) := by
  refine ⟨fun m hm => ?_, by rw [List.length_map]; omega⟩
  obtain ⟨z, hz, rfl⟩ := List.mem_map.mp hm
  have := hN.nm z (h z hz)
  exact ⟨this.ok, Nat.le_trans this.2.2 (by decide)⟩
theorem ok_wd {us : List (Str × UF)} (hN : Nms us) {ds : List (Str × Str)} (h : ∀ d ∈ ds, WD us d) (l : ds.length ≤ 150) : MsOk (ds.map Sum.inr) := by
  refine ⟨fun m hm => ?_, by rw [List.length_map]; omega⟩
  obtain ⟨d, hd, rfl⟩ := List.mem_map.mp hm
  have hw := h d hd
  refine ⟨wd_ok hN hw, Nat.le_trans (hN.nm _ hw.1).2.2 (by decide), ?_⟩
  rcases hw.2 with e | e <;> rw [e] <;> decide +kernel
theorem ao_few {us : List (Str × UF)} (hN : Nms us) (few : ∀ q ∈ us, q.2.needs.length ≤ 100) (d : Str × Str) : (ao us d).length ≤ 120 := by
  unfold ao
  split
  · rw [List.length_map]
    exact Nat.le_trans (filt_len hN _) (by decide)
  · rw [srtP_len, List.length_append, List.length_map, List.length_map (f := (·, offS))]
    have h1 : (br us d.1).length ≤ 16 := filt_len hN _
    have h2 : (ned us d.1).length ≤ 100 := by
      unfold ned
      split
      · rename_i u e
        refine Nat.le_trans (List.length_filter_le _ _) ?_
        by_cases c : d.1 ∈ us.map (·.1)
        · obtain ⟨u', e', m⟩ := fu_of c hN.nd
          rw [e] at e'
          cases e'
          exact few _ m
        · exfalso
          have : fu us d.1 = none := fu_out c
          rw [e] at this
          cases this
      · exact Nat.zero_le _
    omega
theorem ch_wd {us : List (Str × UF)} : ∀ {cs : List (Str × Str)}, Ch us cs → (∀ c, cs.head? = some c → WD us c) → ∀ d ∈ cs, WD us d
  | [], _, _, _, h => nomatch h
  | [a], _, h, d, hd => by
    rw [List.mem_singleton.mp hd]
    exact h a rfl
  | a :: b :: r, hc, h, d, hd => by
    rcases List.mem_cons.mp hd with rfl | hd
    · exact h _ rfl
    · exact ch_wd hc.2 (fun c e => by cases e; exact ao_wd hc.1) d hd
theorem tx_self {us : List (Str × UF)} (hN : Nms us) (hT : ∀ q ∈ us, Tx q.1 q.2) (w : Str) : w ∉ wt us w := waits_self hN.nd (fun q hq => by
  have h := (hT q hq).named
  have no : ∀ x ∈ q.2.named, q.1 ≠ x := fun x hx e => (h x hx).2 e.symm
  refine ⟨fun z => no q.1 ?_ rfl, fun z => no q.1 ?_ rfl, fun z => no q.1 ?_ rfl⟩
  · unfold UF.named
    exact List.mem_append_left _ (List.mem_append_left _ (List.mem_append_left _ (List.mem_append_left _ z)))
  · unfold UF.named
    exact List.mem_append_left _ (List.mem_append_right _ z)
  · unfold UF.named
    rw [z]
    exact List.mem_append_right _ (List.mem_singleton.mpr rfl)) w
def sp_law_told (K : PySem.W.Frag) : Sp := fun vs H Q _ => ∃ (p x l : Addr) (n : Nat) (us : List (Str × UF)), vs = [.ref p, .ref x, .ref l] ∧ Bag n H p ∧ n < 600000000 ∧ ShelfAt K H x us ∧ Nms us ∧ (∀ q ∈ us, Tx q.1 q.2) ∧ 0 < us.length ∧ H l = some (.lst ((srt (us.map (·.1))).map V.str)) ∧ l ≠ p ∧
  ∀ L xs ms H', H L = none → H' L = some (.lst xs) → MxH H' xs ms → MsOk ms → ms.length ≤ 150 → Bag (n + 100) H' p → Kp p H H' → Q (.ref L) H'
theorem ok_law_told (T : Txt K mg) : FnOk P w K mg base CX0 7 (He.fAd K ("_law_told", none)) T.d_law_told ["_law_bag_here", "_law_shelf", "_law_words"] (sp_law_told K) := by
  refine T.F_law_told.ok sc_law_told (fun vs H Q E h => ?_) (fun cdv A outer s H vs Q E hr h => ?_)
  · obtain ⟨p, x, l, n, us, rfl, _⟩ := h
    rfl
  · obtain ⟨p, x, l, n, us, rfl, B, hn, hS, hN, hT, h0, hl, nlp, q⟩ := h
    refine ⟨_, PSs.nox (pss_cons (ps_set (i := 3) sc_law_told.nd rfl (Or.inl rfl) (pe_ix ix_list (pv 2) (pe_call (ok_law_take T) (hr.mono (by decide)) (by rfl) T.m_law_take T.F_law_take.kp T.b_law_take .nil pass0 (pa_cons (pv 0) (pa_cons (pe_callB (id := "len")  call_len_seq (by rfl) T.n_len (by decide +kernel) (pa_cons (pv 2) pa_nil)) pa_nil))) (fun _ _ => rfl)))
      (pss_cons (ps_set (i := 4) sc_law_told.nd rfl (Or.inl rfl) (pe_call (ok_law_take T) (hr.mono (by decide)) (by rfl) T.m_law_take T.F_law_take.kp T.b_law_take .nil pass0 (pa_cons (pv 0) (pa_cons pe_int pa_nil))))
      (pss_cons (ps_if (pt_cmpR op_eq (pv 4) pe_int (nomark _))
      (pss_one (ps_ret (pe_meth0 (pv 1) T.cl_Shelf T.me_Shelf_names (ok_Shelf_names T) (hr.mono (by decide)) T.b_Shelf_names .nil pass0)))
      pss_nil)
      (pss_cons (ps_if (pt_cmpR op_eq (pv 4) pe_int (nomark _))
      (pss_one (ps_ret (pe_ix ix_list (pe_lst (pa_cons (pe_meth (pv 1) T.cl_Shelf T.me_Shelf_needing (ok_Shelf_needing T) (hr.mono (by decide)) T.b_Shelf_needing .nil pass0 (pa_cons (pv 3) pa_nil)) (pa_cons (pe_meth (pv 1) T.cl_Shelf T.me_Shelf_barred (ok_Shelf_barred T) (hr.mono (by decide)) T.b_Shelf_barred .nil pass0 (pa_cons (pv 3) pa_nil)) (pa_cons (pe_meth (pv 1) T.cl_Shelf T.me_Shelf_waited (ok_Shelf_waited T) (hr.mono (by decide)) T.b_Shelf_waited .nil pass0 (pa_cons (pv 3) pa_nil)) pa_nil)))) (pe_call (ok_law_take T) (hr.mono (by decide)) (by rfl) T.m_law_take T.F_law_take.kp T.b_law_take .nil pass0 (pa_cons (pv 0) (pa_cons pe_int pa_nil))) (fun _ _ => rfl))))
      pss_nil)
      (pss_cons (ps_if (pt_cmpR op_eq (pv 4) pe_int (nomark _))
      (pss_one (ps_ret (pe_call (ok_at_once T) (hr.mono (by decide)) (by rfl) T.m_at_once T.F_at_once.kp T.b_at_once .nil pass0 (pa_cons (pv 1) (pa_cons (pe_tup (pa_cons (pv 3) (pa_cons (pe_ix ix_list (pe_lst (pa_cons pe_str (pa_cons pe_str pa_nil))) (pe_call (ok_law_take T) (hr.mono (by decide)) (by rfl) T.m_law_take T.F_law_take.kp T.b_law_take .nil pass0 (pa_cons (pv 0) (pa_cons pe_int pa_nil))) (fun _ _ => rfl)) pa_nil))) pa_nil)))))
      pss_nil)
      (pss_cons (ps_set (i := 5) sc_law_told.nd rfl (Or.inl rfl) (pe_lst (pa_cons (pe_tup (pa_cons (pv 3) (pa_cons pe_str pa_nil))) pa_nil)))
      (pss_cons (ps_if (pt_cmpR op_eq (pv 4) pe_int (nomark _))
      (pss_cons (ps_set (i := 6) sc_law_told.nd rfl (Or.inl rfl) (pe_call (ok_chain T) (hr.mono (by decide)) (by rfl) T.m_chain T.F_chain.kp T.b_chain .nil pass0 (pa_cons (pv 1) (pa_cons (pv 5) (pa_cons (pe_tup (pa_cons (pe_ix ix_list (pv 2) pe_int (fun _ _ => rfl)) (pa_cons pe_str pa_nil))) pa_nil)))))
      (pss_cons (ps_expr (pe_bm PySem.F.plainAttrs_list PySem.F.slot_list_append PySem.F.type_list_append mt_append (pv 5) (pa_cons (pe_tup (pa_cons (pv 3) (pa_cons pe_str pa_nil))) pa_nil)))
      (pss_one (ps_ret (pe_ifExp (pt_cmpR op_isN (pv 6) pe_non (nomark _)) (pe_lst pa_nil) (pv 6))))))
      pss_nil)
      (pss_cons (ps_set (i := 7) sc_law_told.nd rfl (Or.inl rfl) (pe_callTy (T := "list")  call_list_of (by rfl) T.n_list (by decide +kernel) (pa_cons (pv 2) pa_nil)))
      (pss_cons (ps_set (i := 6) sc_law_told.nd rfl (Or.inl rfl) (pe_call (ok_knot_in T) (hr.mono (by decide)) (by rfl) T.m_knot_in T.F_knot_in.kp T.b_knot_in .nil pass0 (pa_cons (pv 1) (pa_cons (pv 7) pa_nil))))
      (pss_cons (ps_expr (pe_bm0 PySem.F.plainAttrs_list PySem.F.slot_list_clear PySem.F.type_list_clear mt_clear (pv 7)))
      (pss_one (ps_ret (pe_ifExp (pt_cmpR op_isN (pv 6) pe_non (nomark _)) (pe_lst pa_nil) (pv 6)))))))))))))), ?_⟩
    obtain ⟨dx, D0, kvs0, hps, _⟩ := id hS
    have few := hN.few
    have wl : (srt (us.map (·.1))).length = us.length := by rw [srt_len, List.length_map]
    have hsm : ∀ y ∈ srt (us.map (·.1)), y ∈ us.map (·.1) := fun y hy => srt_mem.mp hy
    have few1 : ∀ q ∈ us, q.2.needs.length ≤ 100 := fun q hq => Nat.le_trans (hT q hq).lN (by decide)
    have self := tx_self hN hT
    have step : ∀ {B : Bool} {Y N : Prop}, Y → N → if B = true then Y else N := fun {B} {Y N} y n => by
      cases B
      · exact n
      · exact y
    -- word
    refine ⟨_, rfl, _, rfl, _, rfl, l, _, rfl, .inl (SqL.of hl), ?_⟩
    refine take_of B (by rw [List.length_map, wl]; omega) (by rw [List.length_map, wl]; omega) (by omega) fun r1 H1 a1 b1 B1 k1 => ?_
    rw [List.length_map] at b1
    obtain ⟨wd, hwd, ewd⟩ := menu_str (zs := srt (us.map (·.1))) a1 b1
    have hl1 := k1 _ _ hl nlp
    refine ⟨l, _, _, _, rfl, rfl, SqL.of hl1, ewd, ?_⟩
    have hwm := hsm wd hwd
    -- way
    refine ⟨_, rfl, take_of (z := 7) B1 (by decide) (by decide) (by omega) fun r2 H2 a2 b2 B2 k2 => ?_⟩
    have k02 := k1.trans k2
    have hl2 := k2 _ _ hl1 nlp
    have hS2 := (hS.keepB k1 B).keepB k2 B1
    obtain ⟨dx2, D2, kvs2, hps2, _⟩ := id hS2
    have fin : ∀ {L : Addr} {xs : List V} {ms : List TP} {H' : Hp} {m : Nat}, H2 L = none → Kp p H2 H' → Bag m H' p → m ≤ n + 100 → H' L = some (.lst xs) → MxH H' xs ms → MsOk ms → ms.length ≤ 150 → Q (.ref L) H' := fun nL k B' hm w m ok len =>
      q _ _ _ _ (k02.free nL (B2.ne nL).symm) w m ok len (B'.le hm) (k02.trans k)
    have names : ∀ {zs : List Str}, (∀ z ∈ zs, z ∈ us.map (·.1)) → zs.length ≤ 16 → MsOk (zs.map Sum.inl) ∧ (zs.map (Sum.inl : Str → TP)).length ≤ 150 := fun h l => ⟨ok_nm hN h l, by rw [List.length_map]; omega⟩
    -- its names
    refine ⟨_, rfl, rfl, _, rfl, ?_⟩
    refine step ⟨_, rfl, x, dx2, _, rfl, hps2, rfl, x, us, rfl, hS2, hN, fun L H3 nL s3 w3 => ?_⟩ ⟨_, rfl, rfl, _, rfl, ?_⟩
    · obtain ⟨o1, o2⟩ := names hsm (by omega)
      exact fin nL (Kp.of s3) (B2.same s3) (by omega) w3 (mx_strs _) o1 o2
    -- its neighbours
    refine step ⟨_, rfl, x, dx2, _, rfl, hps2, rfl, _, rfl, x, wd, us, rfl, hS2, hN, hwm, fun l1 H3 n1 s3 w3 => ⟨_, rfl, x, dx2, _, rfl, s3 _ _ hps2, rfl, _, rfl, x, wd, us, rfl, hS2.same s3, hN, hwm, fun l2 H4 n2 s4 w4 => ?_⟩⟩ ⟨_, rfl, rfl, _, rfl, ?_⟩
    · have s24 := s3.trans s4
      refine ⟨_, rfl, x, dx2, _, rfl, s24 _ _ hps2, rfl, _, rfl, x, wd, us, rfl, hS2.same s24, hN, hwm, fun l3 H5 n3 s5 w5 => ⟨by show 3 ≤ sizeLine; decide, fun m nm => ⟨_, rfl, ?_⟩⟩⟩
      have s25 := s24.trans s5
      refine pick_menu [.ref l1, .ref l2, .ref l3] (B2.same s25) (by omega) nm rfl (by show 0 < 3; decide) (by show 3 < 1000; decide) fun z H6 hz B6 k6 => ?_
      have k26 := (Kp.of s25).trans k6
      have low : ∀ f : Str → Bool, (∀ z ∈ (srt (us.map (·.1))).filter f, z ∈ us.map (·.1)) ∧ ((srt (us.map (·.1))).filter f).length ≤ 16 := fun f => ⟨fun z hz => hsm z (List.mem_filter.mp hz).1, filt_len hN f⟩
      have B5 := B2.same s25
      simp only [List.mem_cons, List.not_mem_nil, or_false] at hz
      rcases hz with rfl | rfl | rfl
      · obtain ⟨o1, o2⟩ := names (low (needB us wd)).1 (low _).2
        exact fin n1 k26 B6 (by omega) (k6 _ _ (s5 _ _ (s4 _ _ w3)) (B2.ne n1).symm) (mx_strs _) o1 o2
      · obtain ⟨o1, o2⟩ := names (low (barB us wd)).1 (low _).2
        have n2' := s3.free n2
        exact fin n2' k26 B6 (by omega) (k6 _ _ (s5 _ _ w4) (B2.ne n2').symm) (mx_strs _) o1 o2
      · obtain ⟨o1, o2⟩ := names (low (waitsB us wd)).1 (low _).2
        have n3' := s24.free n3
        exact fin n3' k26 B6 (by omega) (k6 _ _ w5 (B2.ne n3').symm) (mx_strs _) o1 o2
    -- what follows at once
    refine step ⟨_, rfl, _, rfl, by show 2 ≤ sizeLine; decide, fun m nm => ⟨_, rfl, ?_⟩⟩ ?_
    · refine pick_menu [V.str onS, V.str offS] B2 (by omega) nm rfl (by decide) (by decide) fun z H3 hz B3 k3 => ?_
      obtain ⟨way, rfl⟩ : ∃ y : Str, z = .str y := by
        simp only [List.mem_cons, List.not_mem_nil, or_false] at hz
        rcases hz with rfl | rfl
        · exact ⟨_, rfl⟩
        · exact ⟨_, rfl⟩
      refine ⟨by show 2 ≤ sizeLine; decide, fun g ng => ?_⟩
      generalize hE4 : upd H3 g _ = H4
      have w4 := new_at hE4
      have s4 := new_same hE4 ng
      refine ⟨x, g, us, (wd, way), rfl, (hS2.keepB k3 B2).same s4, hN, few1, SqT.of w4, hwm, fun L xs H5 nL s5 w5 p5 => ?_⟩
      have nL2 := k3.free (s4.free nL) ((B3.same s4).ne nL).symm
      have few := ao_few hN few1 (wd, way)
      exact fin nL2 (k3.same (s4.trans s5)) (B3.same (s4.trans s5)) (by omega) w5 (mx_prs p5) (ok_wd hN (fun d hd => ao_wd hd) (by omega)) (by rw [List.length_map]; omega)
    -- a chain
    refine ⟨_, rfl, by show 2 ≤ sizeLine; decide, fun t nt => ?_⟩
    generalize hE3 : upd H2 t _ = H3
    have w3 := new_at hE3
    have s3 := new_same hE3 nt
    refine ⟨by show 1 ≤ sizeLine; decide, fun h nh => ?_⟩
    generalize hE4 : upd H3 h _ = H4
    have w4 := new_at hE4
    have s4 := new_same hE4 nh
    have s24 := s3.trans s4
    have hS4 := hS2.same s24
    have hl4 := s24 _ _ hl2
    have B4 := B2.same s24
    have hw0 : ∃ w0, (srt (us.map (·.1)))[0]? = some w0 := ⟨_, List.getElem?_eq_getElem (by rw [wl]; omega)⟩
    obtain ⟨w0, hw0⟩ := hw0
    have at0' : ((srt (us.map (·.1))).map V.str)[0]? = some (.str w0) := by rw [List.getElem?_map, hw0]; rfl
    have hw0m := hsm w0 (List.mem_of_getElem? hw0)
    refine ⟨_, rfl, rfl, _, rfl, ?_⟩
    refine step ⟨_, rfl, _, rfl, _, rfl, l, _, _, _, rfl, rfl, SqL.of hl4, atI_nat (j := 0) at0', by show 2 ≤ sizeLine; decide, fun g ng => ?_⟩ ⟨_, rfl, ?_⟩
    · generalize hE5 : upd H4 g _ = H5
      have w5 := new_at hE5
      have s5 := new_same hE5 ng
      have pr : PrH H5 [.ref t] [(wd, onS)] := .cons (s5 _ _ (s4 _ _ w3)) .nil
      have nh2 : H2 h = none := s3.free nh
      have nhp : p ≠ h := (B2.same s3).ne nh
      refine ⟨x, h, g, us, [.ref t], [(wd, onS)], (w0, offS), rfl, hS4.same s5, hN, few1, SqL.of (s5 _ _ w4), pr, (fun d hd => by rw [List.mem_singleton.mp hd]; exact ⟨hwm, .inl rfl⟩), w5, fun i hL L xs cs H6 nL s6 w6 p6 len i100 hd hlast hch => ?_, fun no H6 s6 => ?_⟩
      · refine ⟨_, rfl, .inl ⟨rfl, _, SqL.of (s6 _ _ (s5 _ _ w4))⟩, _, rfl, by show 2 ≤ sizeLine; decide, fun t2 nt2 => ?_⟩
        generalize hE7 : upd H6 t2 _ = H7
        have s7 := new_same hE7 nt2
        have wh7 := s7 _ _ (s6 _ _ (s5 _ _ w4))
        refine ⟨h, _, _, rfl, rfl, wh7, small1000 (by show 1 ≤ 1000; decide), ?_⟩
        generalize hE8 : upd H7 h _ = H8
        have m8 := mut_keep hE8
        have nLh : L ≠ h := (ne_some (s5 _ _ w4) nL).symm
        have s25 := s24.trans s5
        have s27 := (s25.trans s6).trans s7
        have s28 : Same H2 H8 := Same.own s27 m8 nh2
        have cw := ch_wd hch fun c hc => by
          rw [List.mem_singleton.mp (hd c hc)]
          exact ⟨hwm, .inl rfl⟩
        refine ⟨_, rfl, rfl, _, rfl, ?_⟩
        rw [decide_eq_false (fun z => nomatch z)]
        refine iteF ⟨_, rfl, ?_⟩
        exact fin (s25.free nL) (Kp.of s28) (B2.same s28) (by omega) (m8 _ _ (s7 _ _ w6) nLh) (mx_prs ((p6.same s7).keep m8 (.lst wh7))) (ok_wd hN cw (by omega)) (by rw [List.length_map]; omega)
      · refine ⟨_, rfl, .inl ⟨rfl, _, SqL.of (s6 _ _ (s5 _ _ w4))⟩, _, rfl, by show 2 ≤ sizeLine; decide, fun t2 nt2 => ?_⟩
        generalize hE7 : upd H6 t2 _ = H7
        have s7 := new_same hE7 nt2
        have wh7 := s7 _ _ (s6 _ _ (s5 _ _ w4))
        refine ⟨h, _, _, rfl, rfl, wh7, small1000 (by show 1 ≤ 1000; decide), ?_⟩
        generalize hE8 : upd H7 h _ = H8
        have m8 := mut_keep hE8
        have s28 : Same H2 H8 := Same.own (((s24.trans s5).trans s6).trans s7) m8 nh2
        refine ⟨_, rfl, rfl, _, rfl, ?_⟩
        rw [decide_eq_true rfl]
        refine iteT ⟨by show 0 ≤ sizeLine; decide, fun e ne => ?_⟩
        have s29 := s28.trans (same_upd (o := .lst []) ne)
        exact fin (s28.free ne) (Kp.of s29) (B2.same s29) (by omega) upd_same .nil ⟨fun _ h => (nomatch h), by decide⟩ (by decide)
    -- a knot
    refine ⟨l, _, rfl, .inl (SqL.of hl4), fun sl nsl => ?_⟩
    generalize hE5 : upd H4 sl _ = H5
    have w5 := new_at hE5
    have s5 := new_same hE5 nsl
    have s25 := s24.trans s5
    have nsl2 : H2 sl = none := s24.free nsl
    refine ⟨_, rfl, _, rfl, x, sl, us, srt (us.map (·.1)), rfl, hS2.same s25, hN, self, w5, srt_nodup hN.nd, hsm, fun v H6 s6 hv => ?_⟩
    have w6 := s6 _ _ w5
    refine ⟨_, rfl, .inl ⟨rfl, _, SqL.of w6⟩, sl, _, rfl, rfl, w6, ?_⟩
    generalize hE7 : upd H6 sl _ = H7
    have m7 := mut_keep hE7
    have s27 : Same H2 H7 := Same.own (s25.trans s6) m7 nsl2
    refine ⟨_, rfl, rfl, _, rfl, ?_⟩
    rcases hv with ⟨rfl, _⟩ | ⟨r, L, rfl, nL, wL, hR, _⟩
    · rw [decide_eq_true rfl]
      refine iteT ⟨by show 0 ≤ sizeLine; decide, fun e ne => ?_⟩
      have s28 := s27.trans (same_upd (o := .lst []) ne)
      exact fin (s27.free ne) (Kp.of s28) (B2.same s28) (by omega) upd_same .nil ⟨fun _ h => (nomatch h), by decide⟩ (by decide)
    · rw [decide_eq_false (fun z => nomatch z)]
      refine iteF ⟨_, rfl, ?_⟩
      have nLs : L ≠ sl := (ne_some w5 nL).symm
      have rs : ∀ z ∈ r, z ∈ us.map (·.1) := fun z hz => hsm z (hR.sub z hz)
      have rl : r.length ≤ 16 := Nat.le_trans (nodup_le r _ hR.nd rs) hN.len
      obtain ⟨o1, o2⟩ := names rs rl
      exact fin (s25.free nL) (Kp.of s27) (B2.same s27) (by omega) (m7 _ _ wL nLs) (mx_strs _) o1 o2

-- SPLIT
/-! ### a shelf and its facts -/
/-- a tuple of facts lies in the heap -/
def InH (H : Hp) (v : V) : Prop := ∃ t zs, v = .ref t ∧ H t = some (.tup zs)
theorem InH.same {H H' : Hp} {v : V} (h : InH H v) (s : Same H H') : InH H' v := by
  obtain ⟨t, zs, e, h1⟩ := h
  exact ⟨t, zs, e, s _ _ h1⟩
theorem InH.keep {H H' : Hp} {v : V} {q : Addr} (h : InH H v) (k : Kp q H H') (n : NotTup H q) : InH H' v := by
  obtain ⟨t, zs, e, h1⟩ := h
  exact ⟨t, zs, e, k _ _ h1 (n.ne h1)⟩
abbrev GTab (K : PySem.W.Frag) (H : Hp) : List (Key × V) → List (Str × UF) → Prop := Tab fun v _ u => FactS K H v u ∧ InH H v
theorem GTab.f {H : Hp} {kvs : List (Key × V)} {us : List (Str × UF)} (h : GTab K H kvs us) : FTab K H kvs us := h.imp fun _ _ _ r => r.1
theorem GTab.same {H H' : Hp} {kvs : List (Key × V)} {us : List (Str × UF)} (h : GTab K H kvs us) (s : Same H H') : GTab K H' kvs us := h.imp fun _ _ _ r => ⟨FactS.same r.1 s, r.2.same s⟩
theorem GTab.keep {H H' : Hp} {q : Addr} {kvs : List (Key × V)} {us : List (Str × UF)} (h : GTab K H kvs us) (k : Kp q H H') (n : NotTp H q) : GTab K H' kvs us := h.imp fun _ _ _ r => ⟨FactS.keep r.1 k n, r.2.keep k fun xs => (n xs).1⟩
theorem FactsAt.gtab {H : Hp} {kvs : List (Key × V)} {us : List (Str × UF)} (h : FactsAt H kvs us) : GTab K H kvs us := by
  induction h with
  | nil => exact .nil
  | snoc _ e ih =>
    refine ih.app (.cons ⟨FactAt.s e, ?_⟩ .nil)
    obtain ⟨t, _, _, _, _, _, e1, e2, _⟩ := e
    exact ⟨t, _, e1, e2⟩
/-- a shelf, and a dict of its facts -/
structure Pair (K : PySem.W.Frag) (H : Hp) (p d : Addr) (us vs : List (Str × UF)) : Prop where
  sh : ShelfAt K H p us
  ex : ∃ kvs, H d = some (.dK kvs) ∧ GTab K H kvs vs
  nm : Nms vs
  pos : 0 < vs.length
  pm : us.Perm vs
  tx : ∀ q ∈ vs, Tx q.1 q.2
theorem Pair.same {H H' : Hp} {p d : Addr} {us vs : List (Str × UF)} (h : Pair K H p d us vs) (s : Same H H') : Pair K H' p d us vs := by
  obtain ⟨kvs, h1, h2⟩ := h.ex
  exact ⟨h.sh.same s, ⟨kvs, s _ _ h1, GTab.same h2 s⟩, h.nm, h.pos, h.pm, h.tx⟩
theorem Pair.keepL {H H' : Hp} {p d q : Addr} {us vs : List (Str × UF)} {xs : List V} (h : Pair K H p d us vs) (k : Kp q H H') (hq : H q = some (.lst xs)) : Pair K H' p d us vs := by
  obtain ⟨kvs, h1, h2⟩ := h.ex
  exact ⟨h.sh.keepL k hq, ⟨kvs, k _ _ h1 (fun e => by rw [e, hq] at h1; cases h1), GTab.keep h2 k (.lst hq)⟩, h.nm, h.pos, h.pm, h.tx⟩
theorem Pair.keepB {H H' : Hp} {p d q : Addr} {us vs : List (Str × UF)} {n : Nat} (h : Pair K H p d us vs) (k : Kp q H H') (B : Bag n H q) : Pair K H' p d us vs := by
  obtain ⟨_, _, _, hq, _⟩ := B.ex
  exact h.keepL k hq
theorem Pair.nu {H : Hp} {p d : Addr} {us vs : List (Str × UF)} (h : Pair K H p d us vs) : Nms us := perm_nms h.nm h.pm.symm
theorem Pair.txu {H : Hp} {p d : Addr} {us vs : List (Str × UF)} (h : Pair K H p d us vs) : ∀ q ∈ us, Tx q.1 q.2 := fun q hq => h.tx q (h.pm.mem_iff.mp hq)
/-- the dict of the shelf is another one -/
theorem apt_tab {H : Hp} {p d : Addr} {us vs : List (Str × UF)} {kvs : List (Key × V)} (hS : ShelfAt K H p us) (hd : H d = some (.dK kvs)) (hf : GTab K H kvs vs) (h0 : 0 < vs.length) : ∀ C dx fs, H p = some (.ins C dx fs) → fs ≠ ([(Str.ofString "by_name", V.ref d)] : List (Str × V)) := fun C dx fs e z => by
  obtain ⟨dx1, d1, ks, h1, h2, h3⟩ := hS
  rw [e] at h1
  cases h1
  injection z with z _
  injection z with _ z
  injection z with z
  rw [z, hd] at h2
  cases h2
  have hl := hf.len
  obtain ⟨⟨k, v⟩, hk⟩ : ∃ kv, kvs[0]? = some kv := ⟨_, List.getElem?_eq_getElem (by omega)⟩
  obtain ⟨_, _, _, _, _, t, zs, rfl, ht⟩ := hf.at hk
  obtain ⟨_, _, _, _, a, ea, hA⟩ := h3.at hk
  obtain ⟨_, _, _, _, _, _, hA, _⟩ := hA
  cases ea
  rw [hA] at ht
  cases ht
/-! ### a shelf with a unit of it otherwise -/
def sp_law_more (K : PySem.W.Frag) : Sp := fun vs H Q _ => ∃ (p x d : Addr) (n : Nat) (us vs' : List (Str × UF)), vs = [.ref p, .ref x, .ref d] ∧ Bag n H p ∧ n < 600000000 ∧ Pair K H x d us vs' ∧
  ∀ t x' d' us2 vs2 H', Pair K H' x' d' us2 vs2 → H' t = some (.tup [.ref x', .ref d']) → Bag (n + 100) H' p → Kp p H H' → Q (.ref t) H'
theorem ok_law_more (T : Txt K mg) : FnOk P w K mg base CX0 5 (He.fAd K ("_law_more", none)) T.d_law_more ["_law_bag_here", "_law_shelf", "_law_facts_here"] (sp_law_more K) := by
  refine T.F_law_more.ok sc_law_more (fun vs H Q E h => ?_) (fun cdv A outer s H vs Q E hr h => ?_)
  · obtain ⟨p, x, d, n, us, vs', rfl, _⟩ := h
    rfl
  · obtain ⟨p, x, d, n, us, vs', rfl, B, hn, hP, q⟩ := h
    refine ⟨_, PSs.nox (pss_cons (ps_set (i := 3) sc_law_more.nd rfl (Or.inl rfl) (pe_ix ix_list (pe_callB (id := "sorted")  (call_sortedD rfl) (by rfl) T.n_sorted (by decide +kernel) (pa_cons (pv 2) pa_nil)) (pe_call (ok_law_take T) (hr.mono (by decide)) (by rfl) T.m_law_take T.F_law_take.kp T.b_law_take .nil pass0 (pa_cons (pv 0) (pa_cons (pe_callB (id := "len")  call_lenD (by rfl) T.n_len (by decide +kernel) (pa_cons (pv 2) pa_nil)) pa_nil))) (fun _ _ => rfl)))
      (pss_cons (ps_set (i := 4) sc_law_more.nd rfl (Or.inl rfl) (pe_callTy (T := "dict")  call_dictD (by rfl) T.n_dict (by decide +kernel) (pa_cons (pv 2) pa_nil)))
      (pss_cons (ps_dput (hu_of hr) (pv 4) (pv 3) (pe_tup (pa_cons pe_str (pa_cons (pe_tup pa_nil) (pa_cons (pe_ix ix_tup (pe_dget (hu_of hr) (pv 2) (pv 3) (fun _ _ => rfl)) pe_int (fun _ _ => rfl)) (pa_cons (pe_slice sl_tupA (pe_ix ix_tup (pe_dget (hu_of hr) (pv 2) (pv 3) (fun _ _ => rfl)) pe_int (fun _ _ => rfl)) po_none (po_some pe_int)) (pa_cons (pe_tup pa_nil) (pa_cons pe_non (pa_cons pe_non pa_nil)))))))) rfl)
      (pss_one (ps_ret (pe_tup (pa_cons (pe_meth (pv 1) T.cl_Shelf T.me_Shelf_with_unit (ok_Shelf_with_unit T) (hr.mono (by decide)) T.b_Shelf_with_unit .nil pass0 (pa_cons (pe_call (ok_law_unit T) (hr.mono (by decide)) (by rfl) T.m_law_unit T.F_law_unit.kp T.b_law_unit .nil pass0 (pa_cons (pv 3) (pa_cons (pv 4) pa_nil))) pa_nil)) (pa_cons (pv 4) pa_nil)))))))), ?_⟩
    obtain ⟨kvs, hd, ht⟩ := hP.ex
    have hN := hP.nm
    have few := hN.few
    have h0 := hP.pos
    -- word
    refine ⟨_, rfl, d, kvs, vs'.map (·.1), rfl, .inl hd, ht.keys, by rw [List.length_map]; omega, fun ys l hy hs nl => ?_⟩
    obtain rfl := srt_of hy hs
    generalize hE1 : upd H l _ = H1
    have w1 := new_at hE1
    have s1 := new_same hE1 nl
    have npl := B.ne nl
    have wl : (srt (vs'.map (·.1))).length = vs'.length := by rw [srt_len, List.length_map]
    refine ⟨_, rfl, _, rfl, d, kvs, rfl, s1 _ _ hd, ?_⟩
    rw [ht.len]
    refine take_of (B.same s1) (by omega) (by omega) (by omega) fun r2 H2 a2 b2 B2 k2 => ?_
    obtain ⟨wd, hwd, ewd⟩ := menu_str (zs := srt (vs'.map (·.1))) a2 (by rw [wl]; exact b2)
    have hwm : wd ∈ vs'.map (·.1) := srt_mem.mp hwd
    refine ⟨l, _, _, _, rfl, rfl, SqL.of (k2 _ _ w1 npl.symm), ewd, ?_⟩
    have kA : Kp p H H2 := (Kp.of s1).trans k2
    have hP2 := (hP.same s1).keepB k2 (B.same s1)
    obtain ⟨kvs2, hd2, ht2⟩ := hP2.ex
    obtain ⟨u, hu, hum⟩ := fu_of hwm hN.nd
    obtain ⟨v, hv, hF, _⟩ := ht2.get hN.nd (wd, u) hum
    -- found = dict(facts)
    refine ⟨_, rfl, d, kvs2, rfl, .inl hd2, fun f nf => ?_⟩
    generalize hE3 : upd H2 f _ = H3
    have w3 := new_at hE3
    have s3 := new_same hE3 nf
    have hP3 := hP2.same s3
    have hFk := FactS.same hF s3
    obtain ⟨t, n1, x1, b1, a1, g, rfl, h0t, h1t, h2t, h3t, h4t, h5t⟩ := hFk
    have hd3 := s3 _ _ hd2
    -- the new facts
    refine ⟨by show 0 ≤ sizeLine; decide, fun e1 ne1 => ?_⟩
    generalize hE4 : upd H3 e1 _ = H4
    have we1 := new_at hE4
    have s4 := new_same hE4 ne1
    refine ⟨_, rfl, _, rfl, d, _, rfl, by rw [← hv]; exact DGet.k (k := Sum.inr wd) (s4 _ _ hd3), t, _, _, _, rfl, rfl, tup_same s4 h0t, at2, ?_⟩
    refine ⟨_, rfl, _, rfl, d, _, rfl, by rw [← hv]; exact DGet.k (k := Sum.inr wd) (s4 _ _ hd3), t, _, _, _, rfl, rfl, tup_same s4 h0t, at3, 1, rfl, ?_⟩
    refine slA (tup_same s4 h3t) fun b2 H5 s5 wb2 => ?_
    rw [show cutV (u.bars.map V.str) none (some 1) = (u.bars.take 1).map V.str from cutV_strs u.bars 1] at wb2
    refine ⟨by show 0 ≤ sizeLine; decide, fun e2 ne2 => ?_⟩
    generalize hE6 : upd H5 e2 _ = H6
    have we2 := new_at hE6
    have s6 := new_same hE6 ne2
    refine ⟨by show 7 ≤ sizeLine; decide, fun tt ntt => ?_⟩
    generalize hE7 : upd H6 tt _ = H7
    have wtt := new_at hE7
    have s7 := new_same hE7 ntt
    have s37 := ((s4.trans s5).trans s6).trans s7
    have w7 := s37 _ _ w3
    refine ⟨_, rfl, _, rfl, f, _, rfl, DPut.k (k := Sum.inr wd) w7 (by rw [ht2.len]; exact small1000 (by omega)), ?_⟩
    generalize hE8 : upd H7 f _ = H8
    have w8 := new_at hE8
    have s28 : Same H2 H8 := Same.own (s3.trans s37) (mut_keep hE8) nf
    have m8 := mut_keep hE8
    have nt7 : NotTp H7 f := .dK w7
    have hP8 := hP2.same s28
    have hTx := hP.tx _ hum
    have hu2 : FactS K H8 (.ref tt) ⟨Str.ofString "work", [], u.wants, u.bars.take 1, [], none, none⟩ :=
      ⟨tt, e1, x1, b2, e2, .non, rfl, m8.tup nt7 (SqT.of wtt), m8.tup nt7 (SqT.of (s7 _ _ (s6 _ _ (s5 _ _ we1)))), m8.tup nt7 (tup_same s37 h2t), m8.tup nt7 (tup_same (s6.trans s7) wb2), m8.tup nt7 (SqT.of (s7 _ _ we2)), rfl⟩
    have hin : InH H8 (.ref tt) := ⟨tt, _, rfl, m8 _ _ wtt (fun e => by rw [e, w7] at wtt; cases wtt)⟩
    have tx2 : Tx wd ⟨Str.ofString "work", [], u.wants, u.bars.take 1, [], none, none⟩ := by
      refine ⟨hTx.nm, .inl rfl, fun y hy => hTx.named y ?_, List.nodup_nil, hTx.nW, hTx.nB.sublist (List.take_sublist ..), List.nodup_nil, Nat.zero_le _, hTx.lW, Nat.le_trans (List.length_take_le' ..) hTx.lB, Nat.zero_le _, fun h => ?_, fun _ => rfl, fun f m t b s h => nomatch h⟩
      · unfold UF.named at hy ⊢
        simp only [List.mem_append] at hy ⊢
        rcases hy with (((hy | hy) | hy) | hy) | hy
        · cases hy
        · exact .inl (.inl (.inl (.inr hy)))
        · exact .inl (.inl (.inr (List.mem_of_mem_take hy)))
        · cases hy
        · cases hy
      · have : ¬ (Str.ofString "work" = Str.ofString "door") := by decide +kernel
        exact absurd h this
    have vn : (valV (putK kvs2 (Sum.inr wd : Key) (.ref tt)) (Sum.inr wd : Key)) = some (.ref tt) := by rw [valV_put, if_pos rfl]
    have hg2 := hP2.ex
    have ht8 : GTab K H8 (putK kvs2 (Sum.inr wd) (.ref tt)) (fput vs' wd ⟨Str.ofString "work", [], u.wants, u.bars.take 1, [], none, none⟩) := by
      unfold fput
      rw [if_pos hwm]
      exact (GTab.same ht2 s28).put hwm ⟨hu2, hin⟩
    have hN1 := hP2.nu
    have hin1 : wd ∈ us.map (·.1) := (pnames hP2.pm wd).mpr hwm
    have pm2 := wu_perm (w := wd) (u := ⟨Str.ofString "work", [], u.wants, u.bars.take 1, [], none, none⟩) hN1.nd hN.nd hP2.pm
    have hNw := wu_nms (u := ⟨Str.ofString "work", [], u.wants, u.bars.take 1, [], none, none⟩) hN1 hTx.nm (.inl hin1)
    obtain ⟨dx8, D8, ks8, hps8, _⟩ := id hP8.sh
    refine ⟨_, rfl, x, dx8, _, rfl, hps8, rfl, _, rfl, _, rfl, wd, f, _, _, rfl, by rw [← vn]; exact DGet.k (k := Sum.inr wd) w8, hu2, fun b H9 nb s9 hU => ?_⟩
    refine ⟨x, b, us, wd, _, rfl, hP8.sh.same s9, hN1, hU, hNw, fun x' H10 nx s10 hS' => ?_⟩
    refine ⟨_, rfl, by show 2 ≤ sizeLine; decide, fun t' nt' => ?_⟩
    generalize hE11 : upd H10 t' _ = H11
    have w11 := new_at hE11
    have s11 := new_same hE11 nt'
    have s811 := (s9.trans s10).trans s11
    refine q t' x' f _ _ H11 ⟨hS'.same s11, ⟨_, s811 _ _ w8, GTab.same ht8 s811⟩, perm_nms hNw pm2, ?_, pm2, fun q hq => ?_⟩ w11 ((B2.same (s28.trans s811)).le (by omega)) (kA.same (s28.trans s811))
    · rw [← pm2.length_eq]
      unfold wu
      rw [List.length_append]
      exact Nat.succ_pos _
    · rcases fput_mem.mp hq with ⟨hq, _⟩ | rfl
      · exact hP.tx q hq
      · exact tx2

-- SPLIT
theorem neU {H : Hp} {p1 p2 : Addr} {w1 w2 : Str} {u1 u2 : UF} {Q : VK} (T : Txt K mg) (h1 : UnitAt K H p1 w1 u1) (h2 : UnitAt K H p2 w2 u2) (o1 : UStr u1) (o2 : UStr u2) (q : Q (.bl (!decide (w1 = w2 ∧ u1 = u2))) H) : UO.rNeO K (He.ga K "Unit") (sp_Unit_eq K) E0 (.ref p1) (.ref p2) H Q := by
  have h1' := h1
  have h2' := h2
  obtain ⟨d1, _, _, _, _, _, e1, _⟩ := h1
  obtain ⟨d2, _, _, _, _, _, e2, _⟩ := h2
  exact ⟨p1, d1, _, _, rfl, e1, T.ix_Unit.ty T.cl_Unit e2, UO.first_self _ _, p1, w1, u1, _, rfl, h1', o1, .inl ⟨p2, w2, u2, rfl, h2', o2, _, rfl, q⟩⟩

/-! ### a shelf is that of some facts -/
theorem ordU_perm {us us' : List (Str × UF)} (p : us'.Perm us) (nd : (us.map (·.1)).Nodup) : ordU us' = ordU us := by
  have nd' : (us'.map (·.1)).Nodup := (p.map _).nodup_iff.mpr nd
  unfold ordU
  rw [srt_perm_eq (p.map (·.1))]
  refine List.map_congr_left fun w hw => ?_
  obtain ⟨u, _, m⟩ := fu_of (srt_mem.mp hw) nd
  rw [show gu us w = u from gu_of nd m, show gu us' w = u from gu_of nd' (p.mem_iff.mpr m)]
theorem ShelfAt.keepD {H H' : Hp} {p q : Addr} {us : List (Str × UF)} {xs : List (Key × V)} (h : ShelfAt K H p us) (k : Kp q H H') (hq : H q = some (.dK xs)) (ap : ∀ C dx fs, H p = some (.ins C dx fs) → fs ≠ ([(Str.ofString "by_name", V.ref q)] : List (Str × V))) : ShelfAt K H' p us := by
  obtain ⟨dx, d, kvs, h1, h2, h3⟩ := h
  refine ⟨dx, d, kvs, k _ _ h1 (fun e => by rw [e, hq] at h1; cases h1), k _ _ h2 (fun e => ap _ _ _ h1 (by rw [e])), h3.imp fun v w u ⟨a, e, r⟩ => ⟨a, e, r.keepN k (.dK hq) (.dK hq)⟩⟩
def sp_law_shelf_right (K : PySem.W.Frag) : Sp := fun vs H Q _ => ∃ (p d : Addr) (us vs' : List (Str × UF)), vs = [.ref p, .ref d] ∧ Pair K H p d us vs' ∧
  ∀ H', Same H H' → Q (.bl true) H'
theorem ok_law_shelf_right (T : Txt K mg) : FnOk P w K mg base CX0 9 (He.fAd K ("_law_shelf_right", none)) T.d_law_shelf_right ["_law_shelf", "_law_facts_here"] (sp_law_shelf_right K) := by
  refine T.F_law_shelf_right.ok sc_law_shelf_right (fun vs H Q E h => ?_) (fun cdv A outer s H vs Q E hr h => ?_)
  · obtain ⟨p, d, us, vs', rfl, _⟩ := h
    rfl
  · obtain ⟨p, d, us, vs', rfl, hP, q⟩ := h
    have hS := hP.sh
    have hp := hP.pm
    refine ⟨_, PSs.nox (pss_cons (ps_if (PW.pt (pw_or (pt_cmpR (op_neD hr.units) (pe_meth0 (pv 0) T.cl_Shelf T.me_Shelf_names (ok_Shelf_names T) (hr.mono (by decide)) T.b_Shelf_names .nil pass0) (pe_callB (id := "sorted")  (call_sortedD rfl) (by rfl) T.n_sorted (by decide +kernel) (pa_cons (pv 1) pa_nil)) (nomark _)) (pw_or1 (pt_cmpR op_ne (pe_call (ok_show_shelf T) (hr.mono (by decide)) (by rfl) T.m_show_shelf T.F_show_shelf.kp T.b_show_shelf .nil pass0 (pa_cons (pv 0) pa_nil)) (pe_call (ok_law_shelf_text T) (hr.mono (by decide)) (by rfl) T.m_law_shelf_text T.F_law_shelf_text.kp T.b_law_shelf_text .nil pass0 (pa_cons (pv 1) pa_nil)) (nomark _)))))
      (pss_one (ps_ret pe_bl))
      pss_nil)
      (pss_cons (ps_lock (ps_for PassesOwn.never rfl (pi_keys (pv 1)) (pg_name (i := 2) sc_law_shelf_right.nd rfl (Or.inl rfl))
      (pss_cons (ps_if (PW.pt (pw_or (pt_cmpR (UO.op_neO (ok_Unit_eq T) T.me_Unit_eq.at_ T.me_Unit_eq.fn T.b_Unit_eq pass0 T.ix_Unit.ne T.ix_Unit.mro (hr.mono (by decide))) (pe_meth (pv 0) T.cl_Shelf T.me_Shelf_unit (ok_Shelf_unit T) (hr.mono (by decide)) T.b_Shelf_unit .nil pass0 (pa_cons (pv 2) pa_nil)) (pe_call (ok_law_unit T) (hr.mono (by decide)) (by rfl) T.m_law_unit T.F_law_unit.kp T.b_law_unit .nil pass0 (pa_cons (pv 2) (pa_cons (pv 1) pa_nil))) (nomark _)) (pw_or1 (pt_cmpR (op_neD hr.units) (pe_meth (pv 0) T.cl_Shelf T.me_Shelf_needing (ok_Shelf_needing T) (hr.mono (by decide)) T.b_Shelf_needing .nil pass0 (pa_cons (pv 2) pa_nil)) (pe_call (ok_law_needing T) (hr.mono (by decide)) (by rfl) T.m_law_needing T.F_law_needing.kp T.b_law_needing .nil pass0 (pa_cons (pv 1) (pa_cons (pv 2) pa_nil))) (nomark _)))))
      (pss_one (ps_ret pe_bl))
      pss_nil)
      (pss_one (ps_if (PW.pt (pw_or (pt_cmpR (op_neD hr.units) (pe_meth (pv 0) T.cl_Shelf T.me_Shelf_barred (ok_Shelf_barred T) (hr.mono (by decide)) T.b_Shelf_barred .nil pass0 (pa_cons (pv 2) pa_nil)) (pe_call (ok_law_barred T) (hr.mono (by decide)) (by rfl) T.m_law_barred T.F_law_barred.kp T.b_law_barred .nil pass0 (pa_cons (pv 1) (pa_cons (pv 2) pa_nil))) (nomark _)) (pw_or1 (pt_cmpR (op_neD hr.units) (pe_meth (pv 0) T.cl_Shelf T.me_Shelf_waited (ok_Shelf_waited T) (hr.mono (by decide)) T.b_Shelf_waited .nil pass0 (pa_cons (pv 2) pa_nil)) (pe_call (ok_law_waited T) (hr.mono (by decide)) (by rfl) T.m_law_waited T.F_law_waited.kp T.b_law_waited .nil pass0 (pa_cons (pv 1) (pa_cons (pv 2) pa_nil))) (nomark _)))))
      (pss_one (ps_ret pe_bl))
      pss_nil)))))
      (pss_one (ps_ret pe_bl)))), ?_⟩
    obtain ⟨dx, ds, ks, hps, hds, hts⟩ := id hS
    have hN2 := hP.nm
    have hN1 : Nms us := perm_nms hN2 hp.symm
    obtain ⟨kvs, hd, hg⟩ := hP.ex
    have ht := GTab.f hg
    have few := hN2.len
    have few2 := hN2.few
    have hT1 := hP.txu
    have fewA : ∀ p ∈ vs', p.2.needs.length ≤ 100 ∧ p.2.after.length ≤ 100 := fun p hp => ⟨Nat.le_trans (hP.tx p hp).lN (by decide), Nat.le_trans (hP.tx p hp).lA (by decide)⟩
    have eT : shelfText us = shelfText vs' := by
      unfold shelfText
      rw [ordU_perm hp hN2.nd]
    have okn : ∀ x ∈ srt (vs'.map (·.1)), PyData.strOk x = true := fun x hx => (hN2.nm x (srt_mem.mp hx)).ok
    have okf : ∀ (f : Str → Bool), ∀ x ∈ (srt (vs'.map (·.1))).filter f, PyData.strOk x = true := fun f x hx => okn x (List.mem_filter.mp hx).1
    have nbr : NBr vs' := fun q hq z => ((hP.tx q hq).named q.1 (by unfold UF.named; exact List.mem_append_left _ (List.mem_append_left _ (List.mem_append_right _ z)))).2 rfl
    -- names and len
    refine ⟨_, rfl, p, dx, _, rfl, hps, rfl, p, us, rfl, hS, hN1, fun l1 H1 n1 s1 w1 => ?_⟩
    rw [psrt hp] at w1
    refine ⟨_, rfl, d, kvs, vs'.map (·.1), rfl, .inl (s1 _ _ hd), ht.keys, by omega, fun ys l2 hy hs n2 => ?_⟩
    obtain rfl := srt_of hy hs
    generalize hE2 : upd H1 l2 _ = H2
    have w2 := new_at hE2
    have s12 := new_same hE2 n2
    have s2 := s1.trans s12
    refine neD_strs (SqL.of (s12 _ _ w1)) (SqL.of w2) okn okn ⟨_, rfl, ?_⟩
    rw [decide_eq_true rfl]
    refine iteF ⟨_, rfl, p, us, rfl, hS.same s2, hN1, hT1, fun H2a s2a => ⟨_, rfl, d, kvs, vs', rfl, s2a _ _ (s2 _ _ hd), FTab.same (FTab.same ht s2) s2a, hN2, hP.tx, fun H2b s2b => ⟨rfl, _, rfl, ?_⟩⟩⟩
    rw [eT]
    refine neF ?_
    have s2 := s2.trans (s2a.trans s2b)
    have hg2 := GTab.same hg s2
    -- for word in facts
    have hd2 := s2 _ _ hd
    refine ⟨d, _, hd2, trivial, fun od => ?_⟩
    generalize hE3 : upd H2b d _ = H3
    have wd := new_at hE3
    have m3 := mut_keep hE3
    have hS3 := (hS.same s2).keepD m3 hd2 (apt_tab (hS.same s2) hd2 hg2 hP.pos)
    have ht3 := FTab.keep (FTab.same ht s2) m3 (.dK hd2)
    obtain ⟨dx3, ds3, ks3, hps3, _, _⟩ := id hS3
    refine ⟨_, rfl, d, od, rfl, .inl ⟨kvs, wd, ?_⟩⟩
    refine for_it walk_keys (fun j σ H' => Same H3 H' ∧ ∃ y2, σ = [some (.ref p), some (.ref d), y2]) ⟨Same.refl _, none, rfl⟩ (fun i σ H' _ h => h.1 _ _ wd) ?_ ?_
    · rintro i x σ H4 H4' hi ⟨s4, y2, rfl⟩ ⟨rfl, k, v, hk, rfl⟩
      obtain ⟨o, uo, rfl, huo, r⟩ := ht3.at hk
      have hom : (o, uo) ∈ vs' := List.mem_of_getElem? huo
      have ho2 : o ∈ vs'.map (·.1) := List.mem_map_of_mem hom
      have ho1 : o ∈ us.map (·.1) := (pnames hp o).mpr ho2
      obtain ⟨v2, hv2, r2⟩ := ht3.get hN2.nd (o, uo) hom
      have hS4 := hS3.same s4
      have hps4 := s4 _ _ hps3
      have lz : ∀ H', Same H4' H' → LZ K H' d vs' := fun H' s => ⟨kvs, .inr ⟨od, s _ _ (s4 _ _ wd)⟩, FTab.same (FTab.same ht3 s4) s⟩
      -- unit
      refine ⟨_, rfl, p, dx3, _, rfl, hps4, rfl, _, rfl, p, o, us, rfl, hS4, hN1, ho1, fun a u hu hA => ?_⟩
      have eu : u = uo := by
        have h1 := fu_some hN2.nd (hp.mem_iff.mp hu)
        have h2 := fu_some hN2.nd hom
        exact Option.some.inj (h1.symm.trans h2)
      subst eu
      refine ⟨_, rfl, _, rfl, o, d, v2, u, rfl, by rw [← hv2]; exact DGet.rd (.inr ⟨od, s4 _ _ wd⟩), FactS.same r2 s4, fun p5 H5 np5 s5 hA5 => ?_⟩
      refine neU T (hA.same s5) hA5 (hP.tx _ hom).str (hP.tx _ hom).str ⟨_, rfl, ?_⟩
      rw [decide_eq_true ⟨rfl, rfl⟩]
      -- needing
      refine iteF ⟨_, rfl, p, dx3, _, rfl, s5 _ _ hps4, rfl, _, rfl, p, o, us, rfl, hS4.same s5, hN1, ho1, fun l6 H6 n6 s6 w6 => ?_⟩
      rw [pnd hp hN1.nd hN2.nd] at w6
      refine ⟨_, rfl, _, rfl, d, o, vs', rfl, lz _ (s5.trans s6), hN2, fun l7 H7 n7 s7 w7 => ?_⟩
      refine neD_strs (SqL.of (s7 _ _ w6)) (SqL.of w7) (okf _) (okf _) ⟨_, rfl, ?_⟩
      rw [decide_eq_true rfl]
      refine iteF ?_
      have s57 := s5.trans (s6.trans s7)
      -- barred
      refine ⟨_, rfl, p, dx3, _, rfl, s57 _ _ hps4, rfl, _, rfl, p, o, us, rfl, hS4.same s57, hN1, ho1, fun l8 H8 n8 s8 w8 => ?_⟩
      rw [pbr hp hN1.nd hN2.nd] at w8
      refine ⟨_, rfl, _, rfl, d, o, vs', rfl, lz _ (s57.trans s8), hN2, nbr, ho2, fun l9 H9 n9 s9 w9 => ?_⟩
      refine neD_strs (SqL.of (s9 _ _ w8)) (SqL.of w9) (okf _) (okf _) ⟨_, rfl, ?_⟩
      rw [decide_eq_true rfl]
      have s59 := s57.trans (s8.trans s9)
      -- waited
      refine iteF ⟨_, rfl, p, dx3, _, rfl, s59 _ _ hps4, rfl, _, rfl, p, o, us, rfl, hS4.same s59, hN1, ho1, fun l10 H10 n10 s10 w10 => ?_⟩
      rw [pwt hp hN1.nd hN2.nd] at w10
      refine ⟨_, rfl, _, rfl, d, o, vs', rfl, lz _ (s59.trans s10), hN2, fewA, ho2, fun l11 H11 n11 s11 w11 => ?_⟩
      refine neD_strs (SqL.of (s11 _ _ w10)) (SqL.of w11) (okf _) (okf _) ⟨_, rfl, ?_⟩
      rw [decide_eq_true rfl]
      exact iteF ⟨s4.trans (s59.trans (s10.trans s11)), _, rfl⟩
    · rintro σ H4 ⟨s4, y2, rfl⟩
      exact ⟨s4 _ _ wd, q _ (s2.trans (unlock hd2 hE3 s4 rfl))⟩

-- SPLIT
/-! ### the law -/
theorem Nms.ord {us : List (Str × UF)} (h : Nms us) : Nms (ordU us) ∧ srt ((ordU us).map (·.1)) = (ordU us).map (·.1) ∧ ((ordU us).map (·.1)).Nodup := by
  have e := ordU_names us
  refine ⟨⟨by rw [e]; exact srt_nodup h.nd, by rw [ordU_len]; exact h.few, fun x hx => h.nm x (srt_mem.mp (by rw [← e]; exact hx))⟩, by rw [e, srt_srt], by rw [e]; exact srt_nodup h.nd⟩
theorem ordU_pm {us : List (Str × UF)} (h : Nms us) : (ordU us).Perm us :=
  (List.perm_ext_iff_of_nodup (nd_of h.ord.2.2) (nd_of h.nd)).mpr fun q => ⟨ordU_mem h.nd, fun hq => by
    unfold ordU
    refine List.mem_map.mpr ⟨q.1, srt_mem.mpr (List.mem_map_of_mem hq), ?_⟩
    rw [show gu us q.1 = q.2 from gu_of h.nd hq]⟩
/-- the shelves that are kept, each with its facts -/
def KL (K : PySem.W.Frag) (H : Hp) (kl : Addr) (n : Nat) : Prop := ∃ xs, H kl = some (.lst xs) ∧ xs.length = n ∧ ∀ x ∈ xs, ∃ t p d us vs, x = .ref t ∧ H t = some (.tup [.ref p, .ref d]) ∧ Pair K H p d us vs
theorem KL.same {H H' : Hp} {kl : Addr} {n : Nat} (h : KL K H kl n) (s : Same H H') : KL K H' kl n := by
  obtain ⟨xs, h1, h2, h3⟩ := h
  refine ⟨xs, s _ _ h1, h2, fun x hx => ?_⟩
  obtain ⟨t, p, d, us, vs, e, a, b⟩ := h3 x hx
  exact ⟨t, p, d, us, vs, e, s _ _ a, b.same s⟩
theorem KL.keepL {H H' : Hp} {kl q : Addr} {n : Nat} {ys : List V} (h : KL K H kl n) (k : Kp q H H') (hq : H q = some (.lst ys)) (ne : kl ≠ q) : KL K H' kl n := by
  obtain ⟨xs, h1, h2, h3⟩ := h
  refine ⟨xs, k _ _ h1 ne, h2, fun x hx => ?_⟩
  obtain ⟨t, p, d, us, vs, e, a, b⟩ := h3 x hx
  exact ⟨t, p, d, us, vs, e, k _ _ a (fun z => by rw [z, hq] at a; cases a), b.keepL k hq⟩
/-- one more is kept -/
theorem KL.add {H H' : Hp} {kl t p d : Addr} {us vs : List (Str × UF)} {n : Nat} {xs : List V} (h : KL K H kl n) (w : H kl = some (.lst xs)) (e : upd H kl (.lst (xs ++ [.ref t])) = H') (ht : H t = some (.tup [.ref p, .ref d])) (hp : Pair K H p d us vs) : KL K H' kl (n + 1) := by
  obtain ⟨xs', h1, h2, h3⟩ := h
  rw [w] at h1
  cases h1
  have m := mut_keep e
  have one : ∀ {t p d us vs}, H t = some (.tup [.ref p, .ref d]) → Pair K H p d us vs → H' t = some (.tup [.ref p, .ref d]) ∧ Pair K H' p d us vs := fun {t p d us vs} a b => ⟨m _ _ a (fun z => by rw [z, w] at a; cases a), b.keepL m w⟩
  refine ⟨_, new_at e, by rw [List.length_append, h2]; rfl, fun x hx => ?_⟩
  rcases List.mem_append.mp hx with hx | hx
  · obtain ⟨t, p, d, us, vs, e, a, b⟩ := h3 x hx
    obtain ⟨a, b⟩ := one a b
    exact ⟨t, p, d, us, vs, e, a, b⟩
  · obtain ⟨a, b⟩ := one ht hp
    exact ⟨t, p, d, us, vs, List.mem_singleton.mp hx, a, b⟩
/-- what was told: a tuple of a list and its text -/
def ToldE (H : Hp) (kl tl : Addr) (e : Addr × Addr × Str) : Prop := H e.1 = some (.tup [.ref e.2.1, .str e.2.2]) ∧ e.2.1 ≠ kl ∧ e.2.1 ≠ tl ∧ ∃ xs ms, H e.2.1 = some (.lst xs) ∧ MxH H xs ms ∧ e.2.2 = (dataM ms).shown ∧ MsOk ms
theorem ToldE.same {H H' : Hp} {kl tl : Addr} {e : Addr × Addr × Str} (h : ToldE H kl tl e) (s : Same H H') : ToldE H' kl tl e := by
  obtain ⟨h1, h2, h3, xs, ms, h4, h5, h6⟩ := h
  exact ⟨s _ _ h1, h2, h3, xs, ms, s _ _ h4, h5.same s, h6⟩
theorem ToldE.keep {H H' : Hp} {kl tl q : Addr} {ys : List V} {e : Addr × Addr × Str} (h : ToldE H kl tl e) (k : Kp q H H') (w : H q = some (.lst ys)) (ne : e.2.1 ≠ q) : ToldE H' kl tl e := by
  obtain ⟨h1, h2, h3, xs, ms, h4, h5, h6⟩ := h
  have nt : NotTup H q := .lst w
  exact ⟨k _ _ h1 (nt.ne h1), h2, h3, xs, ms, k _ _ h4 ne, h5.keep k nt, h6⟩
theorem ToldE.keepB {H H' : Hp} {kl tl p : Addr} {n : Nat} {e : Addr × Addr × Str} (h : ToldE H kl tl e) (k : Kp p H H') (B : Bag n H p) : ToldE H' kl tl e := by
  obtain ⟨_, _, _, hq, _⟩ := B.ex
  refine h.keep k hq fun z => ?_
  obtain ⟨_, _, _, xs, ms, h4, h5, _⟩ := h
  rw [z, hq] at h4
  cases h4
  cases h5
def TL (H : Hp) (kl tl : Addr) (n : Nat) (L : Addr) : Prop := ∃ es : List (Addr × Addr × Str), H tl = some (.lst (es.map fun e => .ref e.1)) ∧ es.length ≤ n ∧ ∀ e ∈ es, ToldE H kl tl e ∧ e.2.1 ≠ L
/-- what stands between two deeds; none of the lists told is L -/
structure KT (K : PySem.W.Frag) (H : Hp) (kl tl : Addr) (m n : Nat) (L : Addr) : Prop where
  ne : kl ≠ tl
  m0 : 0 < m
  m8 : m ≤ 8
  k : KL K H kl m
  t : TL H kl tl n L
theorem KT.same {H H' : Hp} {kl tl L : Addr} {m n : Nat} (h : KT K H kl tl m n L) (s : Same H H') : KT K H' kl tl m n L := by
  obtain ⟨es, h1, h2, h3⟩ := h.t
  exact ⟨h.ne, h.m0, h.m8, h.k.same s, es, s _ _ h1, h2, fun e he => ⟨(h3 e he).1.same s, (h3 e he).2⟩⟩
theorem KT.le {H : Hp} {kl tl L : Addr} {m n n' : Nat} (h : KT K H kl tl m n L) (l : n ≤ n') : KT K H kl tl m n' L := by
  obtain ⟨es, h1, h2, h3⟩ := h.t
  exact ⟨h.ne, h.m0, h.m8, h.k, es, h1, Nat.le_trans h2 l, h3⟩
/-- one that isn't there yet -/
theorem KT.fresh {H : Hp} {kl tl L L' : Addr} {m n : Nat} (h : KT K H kl tl m n L) (nL : H L' = none) : KT K H kl tl m n L' := by
  obtain ⟨es, h1, h2, h3⟩ := h.t
  refine ⟨h.ne, h.m0, h.m8, h.k, es, h1, h2, fun e he => ⟨(h3 e he).1, ?_⟩⟩
  obtain ⟨_, _, _, xs, ms, h4, _⟩ := (h3 e he).1
  exact ne_some h4 nL
theorem KT.back {H : Hp} {kl tl L : Addr} {m n : Nat} (h : KT K H kl tl m n L) : KT K H kl tl m n tl := by
  obtain ⟨es, h1, h2, h3⟩ := h.t
  exact ⟨h.ne, h.m0, h.m8, h.k, es, h1, h2, fun e he => ⟨(h3 e he).1, (h3 e he).1.2.2.1⟩⟩
theorem Bag.noT {H : Hp} {p : Addr} {n : Nat} {xs : List V} (B : Bag n H p) (h : H p = some (.lst xs)) (r : ∀ x ∈ xs, ∃ t, x = .ref t) : False := by
  obtain ⟨a, b, c, hq, _⟩ := B.ex
  rw [hq] at h
  cases h
  obtain ⟨t, e⟩ := r (.int a) (List.mem_cons_self ..)
  cases e
theorem KT.keepB {H H' : Hp} {kl tl p L : Addr} {m n b : Nat} (h : KT K H kl tl m n L) (k : Kp p H H') (B : Bag b H p) : KT K H' kl tl m n L := by
  obtain ⟨es, h1, h2, h3⟩ := h.t
  obtain ⟨_, _, _, hq, _⟩ := B.ex
  have n1 : kl ≠ p := fun e => by
    obtain ⟨xs, w, _, all⟩ := h.k
    rw [e] at w
    exact Bag.noT B w fun x hx => by
      obtain ⟨t, _, _, _, _, e, _⟩ := all x hx
      exact ⟨t, e⟩
  have n2 : tl ≠ p := fun e => by
    rw [e] at h1
    exact Bag.noT B h1 fun x hx => by
      obtain ⟨e, _, e2⟩ := List.mem_map.mp hx
      exact ⟨_, e2.symm⟩
  exact ⟨h.ne, h.m0, h.m8, h.k.keepL k hq n1, es, k _ _ h1 n2, h2, fun e he => ⟨(h3 e he).1.keepB k B, (h3 e he).2⟩⟩
/-- the list L is changed -/
theorem KT.chg {H H' : Hp} {kl tl L : Addr} {m n : Nat} {xs : List V} (h : KT K H kl tl m n L) (k : Kp L H H') (w : H L = some (.lst xs)) (n1 : L ≠ kl) (n2 : L ≠ tl) : KT K H' kl tl m n L := by
  obtain ⟨es, h1, h2, h3⟩ := h.t
  exact ⟨h.ne, h.m0, h.m8, h.k.keepL k w n1.symm, es, k _ _ h1 n2.symm, h2, fun e he => ⟨(h3 e he).1.keep k w (h3 e he).2, (h3 e he).2⟩⟩
/-- one more is kept -/
theorem KT.put {H H' : Hp} {kl tl t p d L : Addr} {us vs : List (Str × UF)} {m n : Nat} {xs : List V} (h : KT K H kl tl m n L) (w : H kl = some (.lst xs)) (e : upd H kl (.lst (xs ++ [.ref t])) = H') (ht : H t = some (.tup [.ref p, .ref d])) (hp : Pair K H p d us vs) (l : m < 8) : KT K H' kl tl (m + 1) n L := by
  obtain ⟨es, h1, h2, h3⟩ := h.t
  have mk := mut_keep e
  exact ⟨h.ne, Nat.succ_pos _, l, h.k.add w e ht hp, es, mk _ _ h1 h.ne.symm, h2, fun e he => ⟨(h3 e he).1.keep mk w (h3 e he).1.2.1, (h3 e he).2⟩⟩
/-- one more is told -/
theorem KT.tell {H H' : Hp} {kl tl t L : Addr} {zs : List V} {xs : List V} {ms : List TP} {m n : Nat} (h : KT K H kl tl m n L) (w : H tl = some (.lst zs)) (e : upd H tl (.lst (zs ++ [.ref t])) = H') (ht : H t = some (.tup [.ref L, .str (dataM ms).shown])) (n1 : L ≠ kl) (n2 : L ≠ tl) (wL : H L = some (.lst xs)) (mL : MxH H xs ms) (ok : MsOk ms) : KT K H' kl tl m (n + 1) tl := by
  obtain ⟨es, h1, h2, h3⟩ := h.t
  rw [w] at h1
  cases h1
  have mk := mut_keep e
  refine ⟨h.ne, h.m0, h.m8, h.k.keepL mk w h.ne, es ++ [(t, L, (dataM ms).shown)], by rw [List.map_append]; exact new_at e, by rw [List.length_append]; exact Nat.succ_le_succ h2, fun e' he => ?_⟩
  rcases List.mem_append.mp he with he | he
  · exact ⟨(h3 e' he).1.keep mk w (h3 e' he).1.2.2.1, (h3 e' he).1.2.2.1⟩
  · rw [List.mem_singleton.mp he]
    exact ⟨ToldE.keep (H := H) (q := tl) ⟨ht, n1, n2, xs, ms, wL, mL, rfl, ok⟩ mk w n2, n2⟩
def sp_law (K : PySem.W.Frag) : Sp := fun vs H Q _ => ∃ (a : Addr) (ns : List Int), vs = [.ref a] ∧ SqL K H a (ns.map V.int) ∧ ns.length ≤ 63 ∧ ∀ H', Q (.bl true) H'
theorem ok_law (T : Txt K mg) : UG.FnG P w K mg base CX0 10 (He.fAd K ("law", none)) T.d_law ["_law_script"] (sp_law K) := by
  refine UG.okG T.F_law sc_law (fun vs H Q E h => ?_) (fun cdv A outer s H vs Q E hg hr h => ?_)
  · obtain ⟨a, ns, rfl, _⟩ := h
    rfl
  · obtain ⟨a, ns, rfl, hS, hlen, q⟩ := h
    refine ⟨_, PSs.nox (pss_cons (ps_set (i := 1) sc_law.nd rfl (Or.inl rfl) (pe_call (ok_law_bag T) (hr.mono (by decide)) (by rfl) T.m_law_bag T.F_law_bag.kp T.b_law_bag .nil pass0 (pa_cons (pv 0) (pa_cons pe_int pa_nil))))
      (pss_cons (ps_set (i := 2) sc_law.nd rfl (Or.inl rfl) (pe_lst pa_nil))
      (pss_cons (ps_for PassesOwn.never rfl (pi_range1 (by rfl) T.n_range (pa_cons pe_int pa_nil)) (pg_name (i := 3) sc_law.nd rfl (Or.inl rfl))
      (pss_cons (ps_set (i := 4) sc_law.nd rfl (Or.inl rfl) (pe_call (ok_law_facts T) (hr.mono (by decide)) (by rfl) T.m_law_facts T.F_law_facts.kp T.b_law_facts .nil pass0 (pa_cons (pv 1) (pa_cons pe_int pa_nil))))
      (pss_cons (ps_set (i := 5) sc_law.nd rfl (Or.inl rfl) (pe_call (ok_law_units T) (hr.mono (by decide)) (by rfl) T.m_law_units T.F_law_units.kp T.b_law_units .nil pass0 (pa_cons (pv 4) pa_nil)))
      (pss_cons (ps_expr (pe_bm PySem.F.plainAttrs_list PySem.F.slot_list_append PySem.F.type_list_append mt_append (pv 2) (pa_cons (pe_tup (pa_cons (pe_make T.mk_Shelf (ok_Shelf_init T) (hr.mono (by decide)) (by rfl) T.m_Shelf T.b2_Shelf_init .nil pass0 (pa_cons (pv 5) pa_nil)) (pa_cons (pv 4) pa_nil))) pa_nil)))
      (pss_one (ps_expr (pe_bm0 PySem.F.plainAttrs_list PySem.F.slot_list_pop PySem.F.type_list_pop mt_pop (pv 5))))))))
      (pss_cons (ps_set (i := 6) sc_law.nd rfl (Or.inl rfl) (pe_lst pa_nil))
      (pss_cons (ps_for PassesOwn.never rfl (pi_range1 (by rfl) T.n_range (pa_cons (pe_callB (id := "max")  (call_max2 rfl) (by rfl) T.n_max (by decide +kernel) (pa_cons pe_int (pa_cons (pe_callB (id := "min")  (call_min2 rfl) (by rfl) T.n_min (by decide +kernel) (pa_cons pe_int (pa_cons (pe_callB (id := "len")  call_len_seq (by rfl) T.n_len (by decide +kernel) (pa_cons (pv 0) pa_nil)) pa_nil))) pa_nil))) pa_nil)) (pg_name (i := 7) sc_law.nd rfl (Or.inl rfl))
      (pss_cons (ps_set (i := 8) sc_law.nd rfl (Or.inl rfl) (pe_call (ok_law_bag T) (hr.mono (by decide)) (by rfl) T.m_law_bag T.F_law_bag.kp T.b_law_bag .nil pass0 (pa_cons (pv 0) (pa_cons (pv 7) pa_nil))))
      (pss_cons (ps_for PassesOwn.never rfl (pi_range1 (by rfl) T.n_range (pa_cons (pe_op op_add pe_int (pe_call (ok_law_take T) (hr.mono (by decide)) (by rfl) T.m_law_take T.F_law_take.kp T.b_law_take .nil pass0 (pa_cons (pv 8) (pa_cons pe_int pa_nil)))) pa_nil)) (pg_name (i := 3) sc_law.nd rfl (Or.inl rfl))
      (pss_cons (ps_asg (pe_ix ix_list (pv 2) (pe_call (ok_law_take T) (hr.mono (by decide)) (by rfl) T.m_law_take T.F_law_take.kp T.b_law_take .nil pass0 (pa_cons (pv 8) (pa_cons (pe_callB (id := "len")  call_len_seq (by rfl) T.n_len (by decide +kernel) (pa_cons (pv 2) pa_nil)) pa_nil))) (fun _ _ => rfl)) (pg_tup rfl (pgs_cons (pg_name (i := 9) sc_law.nd rfl (Or.inl rfl)) (pgs_cons (pg_name (i := 4) sc_law.nd rfl (Or.inl rfl)) pgs_nil))))
      (pss_cons (ps_set (i := 10) sc_law.nd rfl (Or.inl rfl) (pe_call (ok_law_told T) (hr.mono (by decide)) (by rfl) T.m_law_told T.F_law_told.kp T.b_law_told .nil pass0 (pa_cons (pv 8) (pa_cons (pv 9) (pa_cons (pe_callB (id := "sorted")  (call_sortedD rfl) (by rfl) T.n_sorted (by decide +kernel) (pa_cons (pv 4) pa_nil)) pa_nil)))))
      (pss_mid (ps_if (pt_mid (pt_cmpR op_eq (pe_call (ok_law_take T) (hr.mono (by decide)) (by rfl) T.m_law_take T.F_law_take.kp T.b_law_take .nil pass0 (pa_cons (pv 8) (pa_cons pe_int pa_nil))) pe_int (nomark _)))
      (pss_one (ps_expr (pe_bm PySem.F.plainAttrs_list PySem.F.slot_list_append PySem.F.type_list_append mt_append (pv 10) (pa_cons pe_str pa_nil))))
      pss_nil)
      (pss_cons (ps_expr (pe_bm PySem.F.plainAttrs_list PySem.F.slot_list_append PySem.F.type_list_append mt_append (pv 6) (pa_cons (pe_tup (pa_cons (pv 10) (pa_cons (pe_callB (id := "repr")  (UG.cr_reprD hg (UG.un66 hr)) (by rfl) T.n_repr (by decide +kernel) (pa_cons (pv 10) pa_nil)) pa_nil))) pa_nil)))
      (pss_cons (ps_set (i := 11) sc_law.nd rfl (Or.inl rfl) (pe_call (ok_law_take T) (hr.mono (by decide)) (by rfl) T.m_law_take T.F_law_take.kp T.b_law_take .nil pass0 (pa_cons (pv 8) (pa_cons pe_int pa_nil))))
      (pss_mid (ps_if (pt_mid (PW.pt (pw_and (pt_cmpR op_eq (pv 11) pe_int (nomark _)) (pw_and1 (pt_cmpR op_lt (pe_callB (id := "len")  call_len_seq (by rfl) T.n_len (by decide +kernel) (pa_cons (pv 2) pa_nil)) pe_int (nomark _))))))
      (pss_one (ps_expr (pe_bm PySem.F.plainAttrs_list PySem.F.slot_list_append PySem.F.type_list_append mt_append (pv 2) (pa_cons (pe_call (ok_law_more T) (hr.mono (by decide)) (by rfl) T.m_law_more T.F_law_more.kp T.b_law_more .nil pass0 (pa_cons (pv 8) (pa_cons (pv 9) (pa_cons (pv 4) pa_nil)))) pa_nil))))
      pss_nil)
      (pss_one (ps_if (pt_mid (PW.pt (pw_and (pt_cmpR op_eq (pv 11) pe_int (nomark _)) (pw_and1 (pt_cmpR op_lt (pe_callB (id := "len")  call_len_seq (by rfl) T.n_len (by decide +kernel) (pa_cons (pv 2) pa_nil)) pe_int (nomark _))))))
      (pss_one (ps_expr (pe_bm PySem.F.plainAttrs_list PySem.F.slot_list_append PySem.F.type_list_append mt_append (pv 2) (pa_cons (pe_tup (pa_cons (pe_call (ok_read_shelf T) (hr.mono (by decide)) (by rfl) T.m_read_shelf T.F_read_shelf.kp T.b_read_shelf .nil UX.passF (pa_cons (pe_call (ok_show_shelf T) (hr.mono (by decide)) (by rfl) T.m_show_shelf T.F_show_shelf.kp T.b_show_shelf .nil pass0 (pa_cons (pv 9) pa_nil)) pa_nil)) (pa_cons (pv 4) pa_nil))) pa_nil))))
      pss_nil)))))))))
      (pss_one (ps_if (pt_mid (pt_not (pt_val (pe_callB (id := "all")  (cr_all rfl) (by rfl) T.n_all (by decide +kernel) (pa_cons (pe_lc (own := [("_law_shelf", 9), ("_law_facts_here", 4)]) (g := gTup K 2 (gCons (gName 9) (gCons (gName 4) gNil))) (by rfl) sc_law.nd (pi_list (pv 2)) (blkOk_by (own := [("_law_shelf", 9), ("_law_facts_here", 4)]) (N := N_law) (sc := defScope s_law) (by decide +kernel)) (fun _ _ _ _ _ => by exact (pg_tup rfl (pgs_cons (pg_name (i := 9) sc_law.nd rfl (Or.inl rfl)) (pgs_cons (pg_name (i := 4) sc_law.nd rfl (Or.inl rfl)) pgs_nil)))) (fun _ _ _ _ _ => pts_nil) (fun _ _ _ _ _ => (pe_call (ok_law_shelf_right T) (hr.mono (by decide)) (by rfl) T.m_law_shelf_right T.F_law_shelf_right.kp T.b_law_shelf_right .nil pass0 (pa_cons (pv 9) (pa_cons (pv 4) pa_nil))))) pa_nil)))))
      (pss_one (ps_ret pe_bl))
      pss_nil)))))
      (pss_one (ps_ret (pe_callB (id := "all")  (cr_all rfl) (by rfl) T.n_all (by decide +kernel) (pa_cons (pe_lc (own := [("_law_some_here", 10), ("_law_words", 12)]) (g := gTup K 2 (gCons (gName 10) (gCons (gName 12) gNil))) (by rfl) sc_law.nd (pi_list (pv 6)) (blkOk_by (own := [("_law_some_here", 10), ("_law_words", 12)]) (N := N_law) (sc := defScope s_law) (by decide +kernel)) (fun _ _ _ _ _ => by exact (pg_tup rfl (pgs_cons (pg_name (i := 10) sc_law.nd rfl (Or.inl rfl)) (pgs_cons (pg_name (i := 12) sc_law.nd rfl (Or.inl rfl)) pgs_nil)))) (fun _ _ _ _ _ => pts_nil) (fun _ _ _ _ _ => (pe_cmpR op_eq (pe_callB (id := "repr")  (r := UG.rReprD K) (UG.cr_reprD hg (UG.un66 hr)) (by rfl) T.n_repr (by decide +kernel) (pa_cons (pv 10) pa_nil)) (pv 12) (nomark _)))) pa_nil))))))))), ?_⟩
    -- the first two
    refine ⟨_, rfl, a, ns, 0, rfl, hS, by decide, fun p0 H1 np0 s1 B1 => ?_⟩
    refine ⟨by show 0 ≤ sizeLine; decide, fun kl nkl => ?_⟩
    generalize hE2 : upd H1 kl _ = H2
    have wkl := new_at hE2
    have s2 := new_same hE2 nkl
    have nkp : kl ≠ p0 := (B1.ne nkl).symm
    have nklH : H kl = none := s1.free nkl
    refine ⟨_, rfl, by decide, by decide, for_range (lo := 0) (n := (2 : Int).toNat) (fun i σ H' => Same H H' ∧ Bag (2000 * i) H' p0 ∧ KL K H' kl i ∧ ∃ y3 y4 y5 y6 y7 y8 y9 y10 y11 y12, σ = [some (.ref a), some (.ref p0), some (.ref kl), y3, y4, y5, y6, y7, y8, y9, y10, y11, y12]) ⟨s1.trans s2, B1.same s2, ⟨[], wkl, rfl, fun _ h => nomatch h⟩, _, _, _, _, _, _, _, _, _, _, rfl⟩ ?_ ?_⟩
    · rintro i σ H3 hi ⟨S3, B3, K3, y3, y4, y5, y6, y7, y8, y9, y10, y11, y12, rfl⟩
      have hi2 : i < 2 := hi
      obtain ⟨ks3, w3, l3, _⟩ := id K3
      refine ⟨_, rfl, p0, 16, _, rfl, B3, by omega, by decide, by decide, fun nms ss us kvs d H4 hus hnd hnm h0 hk16 ssn ssm ssl huo hfa nd wd B4 k4 => ?_⟩
      have hul : us.length = nms.length := by
        have := congrArg List.length hus
        rw [List.length_map] at this
        exact this
      have hN : Nms us := ⟨by rw [hus]; exact hnd, by omega, by rw [hus]; exact hnm⟩
      have ht4 : FTab K H4 kvs us := FactsAt.tab hfa
      have hT : ∀ q ∈ us, Tx q.1 q.2 := fun q hq => by
        obtain ⟨v, _, hF⟩ := ht4.get hN.nd q hq
        have hw : q.1 ∈ nms := by
          rw [← hus]
          exact List.mem_map_of_mem hq
        exact tx_of (huo q hq) hF (hnm _ hw) hnm fun x hx => (ssm x hx).1
      obtain ⟨_, _, _, hB3, _⟩ := B3.ex
      have K4 := K3.keepL k4 hB3 nkp
      have S4 : Same H H4 := Same.own S3 k4 np0
      -- made, kept
      refine ⟨_, rfl, d, kvs, us, rfl, wd, ht4, hN, fun ul xs H5 nul s5 wul hU => ?_⟩
      have K5 := K4.same s5
      obtain ⟨ks5, w5, l5, _⟩ := id K5
      refine ⟨_, rfl, .inl ⟨rfl, _, SqL.of w5⟩, _, rfl, fun x dx nx ndx nex => ?_⟩
      have sn : Same H5 (upd (upd H5 dx (.own x)) x (.ins (He.ga K "Shelf") dx [])) := Same.made nx ndx fun b o e _ => e
      refine ⟨x, dx, ul, xs, us, rfl, upd_same, .inl (SqL.of (sn _ _ wul)), hU.same sn, hN, fun H6 hSh kp6 => ⟨rfl, ?_⟩⟩
      have s56 : Same H5 H6 := Same.made nx ndx fun b o e n => kp6 b o e n
      have s46 := s5.trans s56
      have hP6 : Pair K H6 x d us us := ⟨hSh, ⟨kvs, s46 _ _ wd, GTab.same (FactsAt.gtab hfa) s46⟩, hN, by omega, List.Perm.refl _, hT⟩
      refine ⟨_, rfl, by show 2 ≤ sizeLine; decide, fun t7 n7 => ?_⟩
      generalize hE7 : upd H6 t7 _ = H7
      have w7 := new_at hE7
      have s7 := new_same hE7 n7
      have wk7 := s7 _ _ (s56 _ _ w5)
      refine ⟨kl, _, _, rfl, rfl, wk7, small1000 (by omega), ?_⟩
      generalize hE8 : upd H7 kl _ = H8
      have K8 := KL.add ((K5.same s56).same s7) wk7 hE8 w7 (hP6.same s7)
      have m8 := mut_keep hE8
      have s57 := s56.trans s7
      have nku : ul ≠ kl := (ne_some (k4 _ _ w3 nkp) nul).symm
      have wu8 := m8 _ _ (s57 _ _ wul) nku
      have S8 : Same H H8 := Same.own (S4.trans (s5.trans s57)) m8 nklH
      have B8 := ((B4.same s5).same s57).keep m8 nkp.symm
      -- made.pop()
      have xl : 0 < xs.length := by rw [hU.len]; omega
      have nuH : H ul = none := S4.free nul
      have nup : ul ≠ p0 := (B4.ne nul).symm
      refine ⟨_, rfl, .inl ⟨rfl, _, SqL.of wu8⟩, ul, xs, xs[xs.length - 1]'(by omega), rfl, rfl, wu8, List.getElem?_eq_getElem (by omega), ?_⟩
      generalize hE9 : upd H8 ul _ = H9
      have m9 := mut_keep hE9
      exact ⟨Same.own S8 m9 nuH, (B8.keep m9 nup.symm).le (by omega), K8.keepL m9 wu8 nku.symm, _, _, _, _, _, _, _, _, _, _, rfl⟩
    · rintro σ H3 ⟨S3, B3, K3, y3, y4, y5, y6, y7, y8, y9, y10, y11, y12, rfl⟩
      -- the told ones
      refine ⟨by show 0 ≤ sizeLine; decide, fun tl ntl => ?_⟩
      generalize hE4 : upd H3 tl _ = H4
      have wtl := new_at hE4
      have s4 := new_same hE4 ntl
      have K3 : KL K H3 kl 2 := K3
      have S4 := S3.trans s4
      have ntlH : H tl = none := S3.free ntl
      have K4 : KT K H4 kl tl 2 0 tl := by
        obtain ⟨ks3, w3, l3, _⟩ := id K3
        exact ⟨ne_some w3 ntl, by decide, by decide, K3.same s4, [], wtl, Nat.le_refl _, fun _ h => nomatch h⟩
      refine ⟨_, rfl, a, _, rfl, .inl (S4.seq hS), _, _, rfl, _, _, rfl, _, rfl, ?_, ?_, for_range (lo := 0) (fun i σ H' => Same H H' ∧ (∃ m, KT K H' kl tl m (8 * i) tl) ∧ ∃ y1 y3 y4 y5 y7 y8 y9 y10 y11 y12, σ = [some (.ref a), y1, some (.ref kl), y3, y4, y5, some (.ref tl), y7, y8, y9, y10, y11, y12]) ⟨S4, ⟨2, K4⟩, _, _, _, _, _, _, _, _, _, _, rfl⟩ ?_ ?_⟩
      · split <;> split <;> omega
      · split <;> split <;> omega
      · rintro i σ H5 hi ⟨S5, ⟨m5, K5⟩, y1, y3, y4, y5, y7, y8, y9, y10, y11, y12, rfl⟩
        have hi6 : i < 6 := by
          rw [List.length_map] at hi
          revert hi
          split <;> split <;> omega
        refine ⟨_, rfl, _, rfl, a, ns, i, by rw [Int.zero_add]; rfl, S5.seq hS, by omega, fun p H6 np s6 B6 => ?_⟩
        have npH : H p = none := S5.free np
        refine ⟨_, rfl, take_of (z := 8) B6 (by decide) (by decide) (by omega) fun r7 H7 a7 b7 B7 k7 => ?_⟩
        have S7 : Same H H7 := Same.own (S5.trans s6) k7 npH
        have K7 := (K5.same s6).keepB k7 B6
        refine ⟨_, _, rfl, rfl, _, rfl, by omega, by omega, for_range (lo := 0) (fun j σ H' => Same H H' ∧ Bag (1 + 1000 * j) H' p ∧ (∃ m, KT K H' kl tl m (8 * i + j) tl) ∧ ∃ y1 y3 y4 y5 y9 y10 y11 y12, σ = [some (.ref a), y1, some (.ref kl), y3, y4, y5, some (.ref tl), some (.int (0 + (i : Int))), some (.ref p), y9, y10, y11, y12]) ⟨S7, B7, ⟨m5, K7⟩, _, _, _, _, _, _, _, _, rfl⟩ ?_ ?_⟩
        · rintro j σ H8 hj ⟨S8, B8, ⟨m8, K8⟩, y1, y3, y4, y5, y9, y10, y11, y12, rfl⟩
          have hj8 : j < 8 := by omega
          -- shelf, facts
          obtain ⟨xs8, wk8, lk8, all8⟩ := id K8.k
          have m88 := K8.m8
          have m80 := K8.m0
          refine ⟨_, rfl, _, rfl, _, rfl, kl, xs8, rfl, .inl (SqL.of wk8), take_of B8 (by omega) (by omega) (by omega) fun r9 H9 a9 b9 B9 k9 => ?_⟩
          have S9 : Same H H9 := Same.own S8 k9 npH
          have K9 := K8.keepB k9 B8
          obtain ⟨xs9, wk9, lk9, all9⟩ := id K9.k
          have e89 : xs8 = xs9 := by
            have nk : kl ≠ p := fun e => by
              rw [e] at wk8
              exact Bag.noT B8 wk8 fun x hx => by
                obtain ⟨t, _, _, _, _, e, _⟩ := all8 x hx
                exact ⟨t, e⟩
            have := k9 _ _ wk8 nk
            rw [wk9] at this
            injection this with this
            injection this with this
            exact this.symm
          subst e89
          obtain ⟨j9, rfl⟩ := Int.eq_ofNat_of_zero_le a9
          have hj9 : j9 < xs8.length := by omega
          obtain ⟨t9, sh, d, us, vs, e9, wt9, hP9⟩ := all9 xs8[j9] (List.getElem_mem hj9)
          refine ⟨kl, _, _, _, rfl, rfl, SqL.of wk9, atI_nat (List.getElem?_eq_getElem hj9), ?_⟩
          rw [e9]
          refine ⟨t9, _, rfl, SqT.of wt9, rfl, _, _, rfl, _, _, rfl, rfl, ?_⟩
          -- told
          obtain ⟨kvs, wd, hg⟩ := hP9.ex
          have hN2 := hP9.nm
          have hN1 := hP9.nu
          have few := hN2.few
          have ht := GTab.f hg
          have pos := hP9.pos
          have lp := hP9.pm.length_eq
          refine ⟨_, rfl, _, rfl, _, rfl, d, kvs, vs.map (·.1), rfl, .inl wd, ht.keys, by rw [List.length_map]; omega, fun ys l hy hs nl => ?_⟩
          obtain rfl := srt_of hy hs
          generalize hE10 : upd H9 l _ = H10
          have wl := new_at hE10
          have s10 := new_same hE10 nl
          rw [← psrt hP9.pm] at wl
          refine ⟨p, sh, l, _, us, rfl, B9.same s10, by omega, hP9.sh.same s10, hN1, hP9.txu, by omega, wl, (B9.ne nl).symm, fun L xs ms H11 nL wL mL okL len B11 k11 => ?_⟩
          have S10 := S9.trans s10
          have S11 : Same H H11 := Same.own S10 k11 npH
          have K10 := (K9.same s10).fresh nL
          have K11 := K10.keepB k11 (B9.same s10)
          have hP11 := (hP9.same s10).keepB k11 (B9.same s10)
          have nLH : H L = none := S10.free nL
          have nLp : L ≠ p := ((B9.same s10).ne nL).symm
          have nLk : L ≠ kl := by
            obtain ⟨_, w, _⟩ := K10.k
            exact (ne_some w nL).symm
          have nLt : L ≠ tl := by
            obtain ⟨_, w, _⟩ := K10.t
            exact (ne_some w nL).symm
          -- changed, perhaps
          refine ⟨fun σ H' => Same H H' ∧ Bag (2 + 1000 * j + 200) H' p ∧ KT K H' kl tl m8 (8 * i + j) L ∧ Pair K H' sh d us vs ∧ (∃ xs ms, H' L = some (.lst xs) ∧ MxH H' xs ms ∧ MsOk ms) ∧ σ = [some (.ref a), y1, some (.ref kl), some (.int (0 + (j : Int))), some (.ref d), y5, some (.ref tl), some (.int (0 + (i : Int))), some (.ref p), some (.ref sh), some (.ref L), y11, y12], ?_, ?_⟩
          · refine ⟨fun _ H' => Same H H' ∧ Bag (2 + 1000 * j + 200) H' p ∧ KT K H' kl tl m8 (8 * i + j) L ∧ Pair K H' sh d us vs ∧ H' L = some (.lst xs) ∧ MxH H' xs ms, ⟨_, rfl, take_of (z := 2) B11 (by decide) (by decide) (by omega) fun r12 H12 a12 b12 B12 k12 => ⟨rfl, _, rfl, ?_⟩⟩, ?_⟩
            · exact ⟨Same.own S11 k12 npH, B12.le (by omega), K11.keepB k12 B11, hP11.keepB k12 B11, k12 _ _ wL nLp, mL.keep k12 B11.notTup⟩
            rintro b H12 ⟨S12, B12, K12, hP12, wL12, mL12⟩
            refine ite2 (fun _ => ?_) (fun _ => ?_)
            · refine ⟨_, rfl, .inl ⟨rfl, _, SqL.of wL12⟩, L, xs, _, rfl, rfl, wL12, small1000 (by rw [mL12.len]; omega), ?_⟩
              generalize hE13 : upd H12 L _ = H13
              have w13 := new_at hE13
              have m13 := mut_keep hE13
              have K13 := K12.chg m13 wL12 nLk nLt
              exact ⟨Same.own S12 m13 nLH, B12.keep m13 nLp.symm, K13, hP12.keepL m13 wL12, ⟨_, _, w13, (mL12.keep m13 (.lst wL12)).app (.str .nil), fun m hm => (List.mem_append.mp hm).elim (okL.1 m) fun hm => by rw [List.mem_singleton.mp hm]; exact ⟨by decide +kernel, by decide +kernel⟩, by rw [List.length_append]; show ms.length + 1 ≤ 200; omega⟩, rfl⟩
            · exact ⟨S12, B12, K12, hP12, ⟨xs, ms, wL12, mL12, okL⟩, rfl⟩
          rintro σ H14 ⟨S14, B14, K14, hP14, ⟨xs, ms, wL, mL, okL⟩, rfl⟩
          -- told.append((some, repr(some)))
          obtain ⟨es14, wt14, _, _⟩ := id K14.t
          obtain ⟨sa, sb, sc, se⟩ := shortM okL
          refine ⟨_, rfl, .inl ⟨rfl, _, SqL.of wt14⟩, _, rfl, _, rfl, L, dataM ms, rfl, .lst (SqL.of wL) mL.dp, sa, sb, sc, se, by show 2 ≤ sizeLine; decide, fun t15 n15 => ?_⟩
          generalize hE15 : upd H14 t15 _ = H15
          have wt15 := new_at hE15
          have s15 := new_same hE15 n15
          have wtl15 := s15 _ _ wt14
          refine ⟨tl, _, _, rfl, rfl, wtl15, small1000 (by rw [List.length_map]; obtain ⟨es, h1, h2, _⟩ := K14.t; rw [wt14] at h1; injection h1 with h1; injection h1 with h1; have := congrArg List.length h1; rw [List.length_map, List.length_map] at this; omega), ?_⟩
          generalize hE16 : upd H15 tl _ = H16
          have m16 := mut_keep hE16
          have K16 := KT.tell (K14.same s15) wtl15 hE16 wt15 nLk nLt (s15 _ _ wL) (mL.same s15) okL
          have S16 : Same H H16 := Same.own (S14.trans s15) m16 ntlH
          have ntp : p ≠ tl := fun e => by
            rw [e] at npH
            have := B14.ex
            obtain ⟨_, _, _, hq, _⟩ := B14.ex
            rw [e, wt14] at hq
            injection hq with hq
            injection hq with hq
            cases es14 with
            | nil => cases hq
            | cons x xs => cases hq
          have B16 := (B14.same s15).keep m16 ntp
          have hP16 := (hP14.same s15).keepL m16 wtl15
          -- way
          refine ⟨_, rfl, take_of (z := 6) B16 (by decide) (by decide) (by omega) fun r17 H17 a17 b17 B17 k17 => ?_⟩
          have K17 := K16.keepB k17 B16
          have S17 : Same H H17 := Same.own S16 k17 npH
          have hP17 := hP16.keepB k17 B16
          have room : ∀ {H0 : Hp} {m : Nat}, KT K H0 kl tl m (8 * i + j + 1) tl → ∃ xs, H0 kl = some (.lst xs) ∧ xs.length = m := fun h => by
            obtain ⟨xs, a, b, _⟩ := h.k
            exact ⟨xs, a, b⟩
          refine ⟨fun σ H' => Same H H' ∧ Bag (2 + 1000 * j + 600) H' p ∧ (∃ m, KT K H' kl tl m (8 * i + j + 1) tl) ∧ Pair K H' sh d us vs ∧ σ = [some (.ref a), y1, some (.ref kl), some (.int (0 + (j : Int))), some (.ref d), y5, some (.ref tl), some (.int (0 + (i : Int))), some (.ref p), some (.ref sh), some (.ref L), some (.int r17), y12], ?_, ?_⟩
          · obtain ⟨xk, wk, lk⟩ := room K17
            refine ⟨fun b H' => H' = H17 ∧ (b = true → m8 < 8), ⟨_, rfl, rfl, _, rfl, ite2 (fun _ => ⟨_, rfl, kl, _, rfl, .inl (SqL.of wk), _, _, rfl, rfl, _, rfl, ?_⟩) (fun _ => ⟨rfl, fun z => nomatch z⟩)⟩, ?_⟩
            · exact ⟨rfl, fun z => by have := of_decide_eq_true z; omega⟩
            rintro b H18 ⟨rfl, hb⟩
            cases b with
            | false => exact iteF ⟨S17, B17.le (by omega), ⟨m8, K17⟩, hP17, rfl⟩
            | true =>
              refine iteT ⟨_, rfl, .inl ⟨rfl, _, SqL.of wk⟩, _, rfl, _, rfl, _, rfl, p, sh, d, _, us, vs, rfl, B17, by omega, hP17, fun t18 x' d' us2 vs2 H19 hP' wt B19 k19 => ?_⟩
              have K19 := K17.keepB k19 B17
              obtain ⟨xk9, wk9, lk9⟩ := room K19
              have wk9' : H19 kl = some (.lst xk) := k19 _ _ wk (fun e => by
                rw [e] at wk
                obtain ⟨xs, a, _, all⟩ := K17.k
                rw [e] at a
                exact Bag.noT B17 a fun x hx => by
                  obtain ⟨t, _, _, _, _, e, _⟩ := all x hx
                  exact ⟨t, e⟩)
              refine ⟨kl, _, _, rfl, rfl, wk9', small1000 (by have := hb rfl; omega), ?_⟩
              generalize hE20 : upd H19 kl _ = H20
              have m20 := mut_keep hE20
              exact ⟨Same.own (Same.own S17 k19 npH) m20 nklH, (B19.keep m20 (fun e => by rw [e] at B19; exact Bag.noT B19 wk9' (fun x hx => by
                obtain ⟨xs, a, _, all⟩ := K19.k
                rw [wk9'] at a
                cases a
                obtain ⟨t, _, _, _, _, e, _⟩ := all x hx
                exact ⟨t, e⟩))).le (by omega), ⟨_, KT.put K19 wk9' hE20 wt hP' (hb rfl)⟩, (hP17.keepB k19 B17).keepL m20 wk9', rfl⟩
          rintro σ H21 ⟨S21, B21, ⟨m21, K21⟩, hP21, rfl⟩
          obtain ⟨xk, wk, lk⟩ := room K21
          refine ⟨fun b H' => H' = H21 ∧ (b = true → m21 < 8), ⟨_, rfl, rfl, _, rfl, ite2 (fun _ => ⟨_, rfl, kl, _, rfl, .inl (SqL.of wk), _, _, rfl, rfl, _, rfl, ?_⟩) (fun _ => ⟨rfl, fun z => nomatch z⟩)⟩, ?_⟩
          · exact ⟨rfl, fun z => by have := of_decide_eq_true z; omega⟩
          rintro b H22 ⟨rfl, hb⟩
          cases b with
          | false => exact iteF ⟨S21, B21.le (by omega), ⟨m21, K21⟩, _, _, _, _, _, _, _, _, rfl⟩
          | true =>
            have hNu := hP21.nu
            have hTu := hP21.txu
            obtain ⟨hNo, hso, hndo⟩ := hNu.ord
            have hTo : ∀ q ∈ ordU us, Tx q.1 q.2 := fun q hq => hTu q (ordU_mem hNu.nd hq)
            refine iteT ⟨_, rfl, .inl ⟨rfl, _, SqL.of wk⟩, _, rfl, sh, us, rfl, hP21.sh, hNu, hTu, fun H22 s22 => .inl ⟨ordU us, rfl, hTo, hNo, hso, fun p2 H23 np2 s23 hS2 => ⟨_, rfl, by show 2 ≤ sizeLine; decide, fun t24 n24 => ?_⟩⟩⟩
            generalize hE24 : upd H23 t24 _ = H24
            have wt24 := new_at hE24
            have s24 := new_same hE24 n24
            have s214 := (s22.trans s23).trans s24
            have wk24 := s214 _ _ wk
            obtain ⟨kvs3, wd3, hg3⟩ := hP21.ex
            have hP24 : Pair K H24 p2 d (ordU us) vs := ⟨hS2.same s24, ⟨kvs3, s214 _ _ wd3, GTab.same hg3 s214⟩, hP21.nm, hP21.pos, (ordU_pm hNu).trans hP21.pm, hP21.tx⟩
            refine ⟨kl, _, _, rfl, rfl, wk24, small1000 (by have := hb rfl; omega), ?_⟩
            generalize hE25 : upd H24 kl _ = H25
            have m25 := mut_keep hE25
            have K25 := KT.put (K21.same s214) wk24 hE25 wt24 hP24 (hb rfl)
            have nkp' : p ≠ kl := fun e => by
              have B' := B21
              rw [e] at B'
              obtain ⟨xs, a, _, all⟩ := K21.k
              exact Bag.noT B' a fun x hx => by
                obtain ⟨t, _, _, _, _, e, _⟩ := all x hx
                exact ⟨t, e⟩
            exact ⟨Same.own (S21.trans s214) m25 nklH, ((B21.same s214).keep m25 nkp').le (by omega), ⟨_, K25⟩, _, _, _, _, _, _, _, _, rfl⟩
        · rintro σ H8 ⟨S8, B8, ⟨m8, K8⟩, y1, y3, y4, y5, y9, y10, y11, y12, rfl⟩
          obtain ⟨xk, wk, lk, all⟩ := id K8.k
          have m88 := K8.m8
          refine ⟨fun b H' => b = false ∧ Same H8 H', ?_, ?_⟩
          · refine ⟨_, rfl, kl, rfl, ⟨_, SqL.of wk⟩, fun D nD => ?_⟩
            refine lc_list (xs := xk) (fun m H' => Same H8 H' ∧ ∃ bs : List Bool, H' D = some (.lst (bs.map V.bl)) ∧ bs.length ≤ m ∧ bs.all id = true) ⟨same_upd nD, [], upd_same, Nat.le_refl _, rfl⟩ (fun m H' _ h => SqL.of (h.1 _ _ wk)) ?_ ?_
            · rintro m x' H12 hm ⟨s12, bs, w12, hbl, hba⟩
              obtain ⟨t', p', d', us', vs', rfl, wt', hP'⟩ := all x' (List.mem_of_getElem? hm)
              have hmx : m < xk.length := (List.getElem?_eq_some_iff.mp hm).1
              refine ⟨t', _, rfl, SqT.of (s12 _ _ wt'), rfl, _, _, rfl, _, _, rfl, rfl, rfl, yes_of (iteT ?_)⟩
              refine ⟨_, rfl, _, rfl, p', d', us', vs', rfl, hP'.same s12, fun H13 s13 => ?_⟩
              refine ⟨_, s13 _ _ w12, by rw [List.length_map]; exact small1000 (by omega), Same.own (s12.trans s13) (mut_keep rfl) nD, bs ++ [true], by rw [upd_same, List.map_append]; rfl, by rw [List.length_append]; exact Nat.succ_le_succ hbl, by rw [List.all_append, hba]; rfl⟩
            · rintro H12 ⟨s12, bs, w12, hbl, hba⟩
              refine ⟨D, bs, rfl, SqL.of w12, ?_⟩
              rw [hba]
              exact ⟨true, rfl, rfl, s12⟩
          rintro b H11 ⟨rfl, s11⟩
          exact iteF ⟨S8.trans s11, ⟨m8, (K8.same s11).le (by omega)⟩, _, _, _, _, _, _, _, _, _, _, rfl⟩
      · rintro σ H5 ⟨S5, ⟨m5, K5⟩, y1, y3, y4, y5, y7, y8, y9, y10, y11, y12, rfl⟩
        obtain ⟨es, wt, le, hE⟩ := id K5.t
        refine ⟨_, rfl, tl, rfl, ⟨_, SqL.of wt⟩, fun D nD => ?_⟩
        refine lc_list (xs := es.map fun e => .ref e.1) (fun m H' => Same H5 H' ∧ ∃ bs : List Bool, H' D = some (.lst (bs.map V.bl)) ∧ bs.length ≤ m ∧ bs.all id = true) ⟨same_upd nD, [], upd_same, Nat.le_refl _, rfl⟩ (fun m H' _ h => SqL.of (h.1 _ _ wt)) ?_ ?_
        · rintro m x' H12 hm ⟨s12, bs, w12, hbl, hba⟩
          rw [List.getElem?_map] at hm
          obtain ⟨e, he, rfl⟩ := Option.map_eq_some_iff.mp hm
          have hme : m < es.length := (List.getElem?_eq_some_iff.mp he).1
          obtain ⟨⟨k1, k2, k3, xs, ms, k4, k5, k6, k7⟩, _⟩ := hE e (List.mem_of_getElem? he)
          refine ⟨e.1, _, rfl, SqT.of (s12 _ _ k1), rfl, _, _, rfl, _, _, rfl, rfl, rfl, yes_of (iteT ?_)⟩
          obtain ⟨sa, sb, sc, se⟩ := shortM k7
          refine ⟨_, rfl, e.2.1, dataM ms, rfl, .lst (SqL.of (s12 _ _ k4)) (k5.same s12).dp, sa, sb, sc, se, _, rfl, rfl, ?_⟩
          rw [← k6, decide_eq_true rfl]
          refine ⟨_, w12, by rw [List.length_map]; exact small1000 (by omega), Same.own s12 (mut_keep rfl) nD, bs ++ [true], by rw [upd_same, List.map_append]; rfl, by rw [List.length_append]; exact Nat.succ_le_succ hbl, by rw [List.all_append, hba]; rfl⟩
        · rintro H12 ⟨s12, bs, w12, hbl, hba⟩
          refine ⟨D, bs, rfl, SqL.of w12, ?_⟩
          rw [hba]
          exact q H12

-- SPLIT
end
theorem kb_Rule_init_1_first_times_top_burst_span_mk {K : PySem.W.Frag} {f : Addr} {fd : FuncData} (F : FunD K "__init__" "Rule.__init__" (defArgs s_Rule_init) (defBody s_Rule_init) (defScope s_Rule_init) [] [("first", V.int 1), ("times", V.int 2), ("top", V.int 64), ("burst", V.int 5), ("span", V.int 100)] f fd) : ∃ gg, KBn K fd ["self", "first", "times", "top", "burst", "span"] 1 ["first", "times", "top", "burst", "span"] gg (fun us ws => us ++ (ws.drop 0).take 1 ++ (ws.drop 1).take 1 ++ (ws.drop 2).take 1 ++ (ws.drop 3).take 1 ++ (ws.drop 4).take 1) := by
  obtain ⟨mv, h⟩ := F.kbinds0 (ps := ["self", "first", "times", "top", "burst", "span"]) 1 ["first", "times", "top", "burst", "span"] [] (fun us mv ws => us ++ (ws.drop 0).take 1 ++ (ws.drop 1).take 1 ++ (ws.drop 2).take 1 ++ (ws.drop 3).take 1 ++ (ws.drop 4).take 1) (by intro z; cases z) (by simp) (fun r1 r2 r3 => (((((r1.append (vals_take ((r3).drop 0) 1)).append (vals_take ((r3).drop 1) 1)).append (vals_take ((r3).drop 2) 1)).append (vals_take ((r3).drop 3) 1)).append (vals_take ((r3).drop 4) 1))) (fun D doc pm an cdv ct us mv ws h1 h2 h3 => match us, mv, ws, h1, h2, h3 with | [_], [], [_, _, _, _, _], _, _, _ => rfl)
  exact ⟨_, h⟩
theorem kb_Unit_init_2_kind_needs_wants_bars_after_opens_rule_mk {K : PySem.W.Frag} {f : Addr} {fd : FuncData} (F : FunD K "__init__" "Unit.__init__" (defArgs s_Unit_init) (defBody s_Unit_init) (defScope s_Unit_init) [] [("kind", V.str "work"), ("needs", V.ref (UO.kwAdr K ("Unit", some "__init__") "needs")), ("wants", V.ref (UO.kwAdr K ("Unit", some "__init__") "wants")), ("bars", V.ref (UO.kwAdr K ("Unit", some "__init__") "bars")), ("after", V.ref (UO.kwAdr K ("Unit", some "__init__") "after")), ("opens", V.non), ("rule", V.non)] f fd) : ∃ gg, KBn K fd ["self", "name", "kind", "needs", "wants", "bars", "after", "opens", "rule"] 2 ["kind", "needs", "wants", "bars", "after", "opens", "rule"] gg (fun us ws => us ++ (ws.drop 0).take 1 ++ (ws.drop 1).take 1 ++ (ws.drop 2).take 1 ++ (ws.drop 3).take 1 ++ (ws.drop 4).take 1 ++ (ws.drop 5).take 1 ++ (ws.drop 6).take 1) := by
  obtain ⟨mv, h⟩ := F.kbinds0 (ps := ["self", "name", "kind", "needs", "wants", "bars", "after", "opens", "rule"]) 2 ["kind", "needs", "wants", "bars", "after", "opens", "rule"] [] (fun us mv ws => us ++ (ws.drop 0).take 1 ++ (ws.drop 1).take 1 ++ (ws.drop 2).take 1 ++ (ws.drop 3).take 1 ++ (ws.drop 4).take 1 ++ (ws.drop 5).take 1 ++ (ws.drop 6).take 1) (by intro z; cases z) (by simp) (fun r1 r2 r3 => (((((((r1.append (vals_take ((r3).drop 0) 1)).append (vals_take ((r3).drop 1) 1)).append (vals_take ((r3).drop 2) 1)).append (vals_take ((r3).drop 3) 1)).append (vals_take ((r3).drop 4) 1)).append (vals_take ((r3).drop 5) 1)).append (vals_take ((r3).drop 6) 1))) (fun D doc pm an cdv ct us mv ws h1 h2 h3 => match us, mv, ws, h1, h2, h3 with | [_, _], [], [_, _, _, _, _, _, _], _, _, _ => rfl)
  exact ⟨_, h⟩
def dd_Shelf_init : He.DefD := ⟨("Shelf", some "__init__"), "__init__", "Shelf.__init__", defArgs s_Shelf_init, defBody s_Shelf_init, defScope s_Shelf_init, [.adr (He.dflAt ("Shelf", some "__init__") 0)], []⟩
def dd_Shelf_names : He.DefD := ⟨("Shelf", some "names"), "names", "Shelf.names", defArgs s_Shelf_names, defBody s_Shelf_names, defScope s_Shelf_names, [], []⟩
def dd_Shelf_has : He.DefD := ⟨("Shelf", some "has"), "has", "Shelf.has", defArgs s_Shelf_has, defBody s_Shelf_has, defScope s_Shelf_has, [], []⟩
def dd_Shelf_unit : He.DefD := ⟨("Shelf", some "unit"), "unit", "Shelf.unit", defArgs s_Shelf_unit, defBody s_Shelf_unit, defScope s_Shelf_unit, [], []⟩
def dd_Shelf_needing : He.DefD := ⟨("Shelf", some "needing"), "needing", "Shelf.needing", defArgs s_Shelf_needing, defBody s_Shelf_needing, defScope s_Shelf_needing, [], []⟩
def dd_Shelf_barred : He.DefD := ⟨("Shelf", some "barred"), "barred", "Shelf.barred", defArgs s_Shelf_barred, defBody s_Shelf_barred, defScope s_Shelf_barred, [], []⟩
def dd_Shelf_waited : He.DefD := ⟨("Shelf", some "waited"), "waited", "Shelf.waited", defArgs s_Shelf_waited, defBody s_Shelf_waited, defScope s_Shelf_waited, [], []⟩
def dd_Shelf_with_unit : He.DefD := ⟨("Shelf", some "with_unit"), "with_unit", "Shelf.with_unit", defArgs s_Shelf_with_unit, defBody s_Shelf_with_unit, defScope s_Shelf_with_unit, [], []⟩
def dd_at_once : He.DefD := ⟨("at_once", none), "at_once", "at_once", defArgs s_at_once, defBody s_at_once, defScope s_at_once, [], []⟩
def dd_causes : He.DefD := ⟨("causes", none), "causes", "causes", defArgs s_causes, defBody s_causes, defScope s_causes, [], []⟩
def dd_chain_to : He.DefD := ⟨("chain_to", none), "chain_to", "chain_to", defArgs s_chain_to, defBody s_chain_to, defScope s_chain_to, [], []⟩
def dd_chain : He.DefD := ⟨("chain", none), "chain", "chain", defArgs s_chain, defBody s_chain, defScope s_chain, [], []⟩
def dd_next_in : He.DefD := ⟨("next_in", none), "next_in", "next_in", defArgs s_next_in, defBody s_next_in, defScope s_next_in, [], []⟩
def dd_free_order : He.DefD := ⟨("free_order", none), "free_order", "free_order", defArgs s_free_order, defBody s_free_order, defScope s_free_order, [], []⟩
def dd_ring_in : He.DefD := ⟨("ring_in", none), "ring_in", "ring_in", defArgs s_ring_in, defBody s_ring_in, defScope s_ring_in, [], []⟩
def dd_knot_in : He.DefD := ⟨("knot_in", none), "knot_in", "knot_in", defArgs s_knot_in, defBody s_knot_in, defScope s_knot_in, [], []⟩
def dd_Rule_init : He.DefD := ⟨("Rule", some "__init__"), "__init__", "Rule.__init__", defArgs s_Rule_init, defBody s_Rule_init, defScope s_Rule_init, [], [("first", .int 1), ("times", .int 2), ("top", .int 64), ("burst", .int 5), ("span", .int 100)]⟩
def dd_Rule_eq : He.DefD := ⟨("Rule", some "__eq__"), "__eq__", "Rule.__eq__", defArgs s_Rule_eq, defBody s_Rule_eq, defScope s_Rule_eq, [], []⟩
def dd_Rule_str : He.DefD := ⟨("Rule", some "__str__"), "__str__", "Rule.__str__", defArgs s_Rule_str, defBody s_Rule_str, defScope s_Rule_str, [], []⟩
def dd_Unit_init : He.DefD := ⟨("Unit", some "__init__"), "__init__", "Unit.__init__", defArgs s_Unit_init, defBody s_Unit_init, defScope s_Unit_init, [], [("kind", .str "work"), ("needs", .adr (fun K => UO.kwAdr K ("Unit", some "__init__") "needs")), ("wants", .adr (fun K => UO.kwAdr K ("Unit", some "__init__") "wants")), ("bars", .adr (fun K => UO.kwAdr K ("Unit", some "__init__") "bars")), ("after", .adr (fun K => UO.kwAdr K ("Unit", some "__init__") "after")), ("opens", .non), ("rule", .non)]⟩
def dd_Unit_eq : He.DefD := ⟨("Unit", some "__eq__"), "__eq__", "Unit.__eq__", defArgs s_Unit_eq, defBody s_Unit_eq, defScope s_Unit_eq, [], []⟩
def dd_is_name : He.DefD := ⟨("is_name", none), "is_name", "is_name", defArgs s_is_name, defBody s_is_name, defScope s_is_name, [], []⟩
def dd_number_in : He.DefD := ⟨("number_in", none), "number_in", "number_in", defArgs s_number_in, defBody s_number_in, defScope s_number_in, [], []⟩
def dd_show_unit : He.DefD := ⟨("show_unit", none), "show_unit", "show_unit", defArgs s_show_unit, defBody s_show_unit, defScope s_show_unit, [], []⟩
def dd_show_shelf : He.DefD := ⟨("show_shelf", none), "show_shelf", "show_shelf", defArgs s_show_shelf, defBody s_show_shelf, defScope s_show_shelf, [], []⟩
def dd_read_head : He.DefD := ⟨("read_head", none), "read_head", "read_head", defArgs s_read_head, defBody s_read_head, defScope s_read_head, [], []⟩
def dd_read_lines : He.DefD := ⟨("read_lines", none), "read_lines", "read_lines", defArgs s_read_lines, defBody s_read_lines, defScope s_read_lines, [], []⟩
def dd_read_names : He.DefD := ⟨("read_names", none), "read_names", "read_names", defArgs s_read_names, defBody s_read_names, defScope s_read_names, [], []⟩
def dd_read_opens : He.DefD := ⟨("read_opens", none), "read_opens", "read_opens", defArgs s_read_opens, defBody s_read_opens, defScope s_read_opens, [], []⟩
def dd_read_rule : He.DefD := ⟨("read_rule", none), "read_rule", "read_rule", defArgs s_read_rule, defBody s_read_rule, defScope s_read_rule, [], []⟩
def dd_read_unit : He.DefD := ⟨("read_unit", none), "read_unit", "read_unit", defArgs s_read_unit, defBody s_read_unit, defScope s_read_unit, [], []⟩
def dd_read_shelf : He.DefD := ⟨("read_shelf", none), "read_shelf", "read_shelf", defArgs s_read_shelf, defBody s_read_shelf, defScope s_read_shelf, [], []⟩
def dd_law_bag : He.DefD := ⟨("_law_bag", none), "_law_bag", "_law_bag", defArgs s_law_bag, defBody s_law_bag, defScope s_law_bag, [], []⟩
def dd_law_take : He.DefD := ⟨("_law_take", none), "_law_take", "_law_take", defArgs s_law_take, defBody s_law_take, defScope s_law_take, [], []⟩
def dd_law_name : He.DefD := ⟨("_law_name", none), "_law_name", "_law_name", defArgs s_law_name, defBody s_law_name, defScope s_law_name, [], []⟩
def dd_law_names : He.DefD := ⟨("_law_names", none), "_law_names", "_law_names", defArgs s_law_names, defBody s_law_names, defScope s_law_names, [], []⟩
def dd_law_rule_parts : He.DefD := ⟨("_law_rule_parts", none), "_law_rule_parts", "_law_rule_parts", defArgs s_law_rule_parts, defBody s_law_rule_parts, defScope s_law_rule_parts, [], []⟩
def dd_law_rule : He.DefD := ⟨("_law_rule", none), "_law_rule", "_law_rule", defArgs s_law_rule, defBody s_law_rule, defScope s_law_rule, [], []⟩
def dd_law_some : He.DefD := ⟨("_law_some", none), "_law_some", "_law_some", defArgs s_law_some, defBody s_law_some, defScope s_law_some, [], []⟩
def dd_law_facts : He.DefD := ⟨("_law_facts", none), "_law_facts", "_law_facts", defArgs s_law_facts, defBody s_law_facts, defScope s_law_facts, [], []⟩
def dd_law_unit : He.DefD := ⟨("_law_unit", none), "_law_unit", "_law_unit", defArgs s_law_unit, defBody s_law_unit, defScope s_law_unit, [], []⟩
def dd_law_units : He.DefD := ⟨("_law_units", none), "_law_units", "_law_units", defArgs s_law_units, defBody s_law_units, defScope s_law_units, [], []⟩
def dd_law_needing : He.DefD := ⟨("_law_needing", none), "_law_needing", "_law_needing", defArgs s_law_needing, defBody s_law_needing, defScope s_law_needing, [], []⟩
def dd_law_barred : He.DefD := ⟨("_law_barred", none), "_law_barred", "_law_barred", defArgs s_law_barred, defBody s_law_barred, defScope s_law_barred, [], []⟩
def dd_law_waited : He.DefD := ⟨("_law_waited", none), "_law_waited", "_law_waited", defArgs s_law_waited, defBody s_law_waited, defScope s_law_waited, [], []⟩
def dd_law_unit_text : He.DefD := ⟨("_law_unit_text", none), "_law_unit_text", "_law_unit_text", defArgs s_law_unit_text, defBody s_law_unit_text, defScope s_law_unit_text, [], []⟩
def dd_law_shelf_text : He.DefD := ⟨("_law_shelf_text", none), "_law_shelf_text", "_law_shelf_text", defArgs s_law_shelf_text, defBody s_law_shelf_text, defScope s_law_shelf_text, [], []⟩
def dd_law_shelf_right : He.DefD := ⟨("_law_shelf_right", none), "_law_shelf_right", "_law_shelf_right", defArgs s_law_shelf_right, defBody s_law_shelf_right, defScope s_law_shelf_right, [], []⟩
def dd_law_told : He.DefD := ⟨("_law_told", none), "_law_told", "_law_told", defArgs s_law_told, defBody s_law_told, defScope s_law_told, [], []⟩
def dd_law_more : He.DefD := ⟨("_law_more", none), "_law_more", "_law_more", defArgs s_law_more, defBody s_law_more, defScope s_law_more, [], []⟩
def dd_law : He.DefD := ⟨("law", none), "law", "law", defArgs s_law, defBody s_law, defScope s_law, [], []⟩
def fn : List He.DefD := [dd_Shelf_init, dd_Shelf_names, dd_Shelf_has, dd_Shelf_unit, dd_Shelf_needing, dd_Shelf_barred, dd_Shelf_waited, dd_Shelf_with_unit, dd_at_once, dd_causes, dd_chain_to, dd_chain, dd_next_in, dd_free_order, dd_ring_in, dd_knot_in, dd_Rule_init, dd_Rule_eq, dd_Rule_str, dd_Unit_init, dd_Unit_eq, dd_is_name, dd_number_in, dd_show_unit, dd_show_shelf, dd_read_head, dd_read_lines, dd_read_names, dd_read_opens, dd_read_rule, dd_read_unit, dd_read_shelf, dd_law_bag, dd_law_take, dd_law_name, dd_law_names, dd_law_rule_parts, dd_law_rule, dd_law_some, dd_law_facts, dd_law_unit, dd_law_units, dd_law_needing, dd_law_barred, dd_law_waited, dd_law_unit_text, dd_law_shelf_text, dd_law_shelf_right, dd_law_told, dd_law_more, dd_law]
def fa : List He.Fa := [.meth "Shelf" "names", .meth "Shelf" "has", .meth "Shelf" "unit", .meth "Shelf" "needing", .meth "Shelf" "barred", .meth "Shelf" "waited", .meth "Shelf" "with_unit", .glo "at_once", .glo "causes", .glo "chain_to", .glo "chain", .glo "next_in", .glo "free_order", .glo "ring_in", .glo "knot_in", .meth "Rule" "__eq__", .meth "Rule" "__str__", .meth "Unit" "__eq__", .glo "is_name", .glo "number_in", .glo "show_unit", .glo "show_shelf", .glo "read_head", .glo "read_lines", .glo "read_names", .glo "read_opens", .glo "read_rule", .glo "read_unit", .glo "read_shelf", .glo "_law_bag", .glo "_law_take", .glo "_law_name", .glo "_law_names", .glo "_law_rule_parts", .glo "_law_rule", .glo "_law_some", .glo "_law_facts", .glo "_law_unit", .glo "_law_units", .glo "_law_needing", .glo "_law_barred", .glo "_law_waited", .glo "_law_unit_text", .glo "_law_shelf_text", .glo "_law_shelf_right", .glo "_law_told", .glo "_law_more", .glo "law", .glo "Shelf", .cls "Shelf", .mkr "Shelf", .noat "Shelf" "by_name", .glo "Rule", .cls "Rule", .mkr "Rule", .noat "Rule" "first", .noat "Rule" "times", .noat "Rule" "top", .noat "Rule" "burst", .noat "Rule" "span", .glo "Unit", .cls "Unit", .mkr "Unit", .noat "Unit" "name", .noat "Unit" "kind", .noat "Unit" "needs", .noat "Unit" "wants", .noat "Unit" "bars", .noat "Unit" "after", .noat "Unit" "opens", .noat "Unit" "rule", .glo "NoUnit", .glo "NoShelf", .glo "UnitError", .glo "NoText", .int "MOST" 16, .str "LETTERS" "abcdefghijklmnopqrstuvwxyz", .str "FIGURES" "0123456789", .int "LONGEST_NAME" 8, .int "LONGEST_NUMBER" 7, .glo "KINDS", .glo "LINE_WORDS", .int "MOST_NAMES" 8, .glo "RULE_BOUNDS", .free "len", .free "sorted", .free "isinstance", .free "str", .free "list", .free "all", .free "int", .free "enumerate", .free "tuple", .free "zip", .free "set", .free "abs", .free "range", .free "dict", .free "max", .free "min", .free "repr"]
abbrev R : PySem.W.OpenRow := PySem.W.OpenLaw.row PySem.Challenge.rw_unitwants_k24_shelves_never_change
def exB (K : PySem.W.Frag) : Bool := UO.insB "Unit" K && UO.insB "Rule" K && UO.tup0B K (UO.kwAdr K ("Unit", some "__init__") "needs") && UO.tup0B K (UO.kwAdr K ("Unit", some "__init__") "wants") && UO.tup0B K (UO.kwAdr K ("Unit", some "__init__") "bars") && UO.tup0B K (UO.kwAdr K ("Unit", some "__init__") "after") && UO.pairB "Unit" "Rule" K && UO.pairB "Rule" "Unit" K && UO.tup0B K (He.dflAt ("Shelf", some "__init__") 0 K) && UF.bareB K (He.ga K "NoText") && UB.gtB K (He.ga K "KINDS") [.s "work", .s "goal", .s "door"] && UB.gtB K (He.ga K "LINE_WORDS") [.s "needs", .s "wants", .s "bars", .s "after", .s "opens", .s "rule"] && UB.gtB K (He.ga K "RULE_BOUNDS") [.p 1 1000, .p 1 10, .p 1 1000000, .p 0 20, .p 0 1000000]
abbrev hk : PySem.W.Hook := UH.hookA (3 :: 2 :: UH.upto 2500 4) fa fn exB
def ob (s : PySem.W.SharedT) : UO.AlB := UH.obsA (3 :: 2 :: UH.upto 2500 4) fa fn exB (HandSHeadRun.getT s)
theorem ob_eq (s : PySem.W.SharedT) : ob s = hk.obs s.abs := UH.obsA_eq (HandSHeadRun.getT_eq s)
def lo : List PySem.Str := ("own_copy" :: "UnitError" :: "NoText" :: "NoUnit" :: "NoShelf" :: "Shelf" :: "at_once" :: "causes" :: "chain_to" :: "chain" :: "next_in" :: "free_order" :: "ring_in" :: "knot_in" :: "Rule" :: "Unit" :: "is_name" :: "number_in" :: "show_unit" :: "show_shelf" :: "read_head" :: "read_lines" :: "read_names" :: "read_opens" :: "read_rule" :: "read_unit" :: "read_shelf" :: "_law_bag" :: "_law_take" :: "_law_name" :: "_law_names" :: "_law_rule_parts" :: "_law_rule" :: "_law_some" :: "_law_facts" :: "_law_unit" :: "_law_units" :: "_law_needing" :: "_law_barred" :: "_law_next" :: "_law_waited" :: "_law_unit_text" :: "_law_shelf_text" :: "_law_shelf_right" :: "_law_told" :: "_law_more" :: "MOST" :: "LETTERS" :: "FIGURES" :: "LONGEST_NAME" :: "LONGEST_NUMBER" :: "KINDS" :: "LINE_WORDS" :: "MOST_NAMES" :: "RULE_BOUNDS" :: ([] : List PySem.Str))
set_option maxHeartbeats 0 in
theorem run1 (w : World) (os : PySem.OsState) : (HandSHeadRun.endF (HandSHeadRun.stepQ (HandSHeadRun.denQ HandSHeadRun.tabQ) R.prog w) 8000 R.prog w os).map (fun s => HandSHeadRun.looksF R.prog (PySem.W.boot_heap w.params) s.abs) = some true := by kernel_rfl
set_option maxHeartbeats 0 in
theorem run2 (w : World) (os : PySem.OsState) : (HandSHeadRun.endF (HandSHeadRun.stepQ (HandSHeadRun.denQ HandSHeadRun.tabQ) R.prog w) 8000 R.prog w os).map (fun s => HandSHeadRun.seenQ (PySem.W.view R.prog [64]) lo (PySem.importedModules R.prog.main.body) (fun s => PySem.W.xlAt (PySem.W.view R.prog [64]) [] s && PySem.W.recOk R.toRowW.records s) s.abs) = some (PySem.W.openGood (PySem.W.view R.prog [64]) lo) := by kernel_rfl
set_option maxHeartbeats 0 in
theorem run3 (w : World) (os : PySem.OsState) : (HandSHeadRun.endF (HandSHeadRun.stepQ (HandSHeadRun.denQ HandSHeadRun.tabQ) R.prog w) 8000 R.prog w os).map ob = some (hk.val w) := by kernel_rfl
theorem run (w : World) : HandSHeadRun.RunEq R (PySem.W.view R.prog [64]) hk ob 8000 lo w := UH.run_of (r := R) (q := (PySem.W.view R.prog [64])) (H := hk) (ob := ob) (M := 8000) (loose := lo) (run1 w) (run2 w) (run3 w)
theorem facts {P : Program} {w : World} {K : PySem.W.Frag} {h : Heap} {mg : Str → Option Value} {f : Addr} (X : K.In h) (G : h.Ns mainGlobals mg) (hfa : mg ("law" : Str) = some (.ref f)) (c : He.SaysD fa fn K) (cx : exB K = true) :
    ∃ fd : FuncData, (∀ (s : Shared) (v : Value), BindsTo s fd ⟨[v], []⟩ [("_law_script", v)]) ∧ ∀ base : Heap, K.In base → base.Ns mainGlobals mg → UG.FnG P w K mg base CX0 10 f fd ["_law_script"] (sp_law K) := by
  obtain ⟨d0, F0⟩ := c.def_ 0 (d := dd_Shelf_init) rfl
  obtain ⟨d1, F1⟩ := c.def_ 1 (d := dd_Shelf_names) rfl
  obtain ⟨d2, F2⟩ := c.def_ 2 (d := dd_Shelf_has) rfl
  obtain ⟨d3, F3⟩ := c.def_ 3 (d := dd_Shelf_unit) rfl
  obtain ⟨d4, F4⟩ := c.def_ 4 (d := dd_Shelf_needing) rfl
  obtain ⟨d5, F5⟩ := c.def_ 5 (d := dd_Shelf_barred) rfl
  obtain ⟨d6, F6⟩ := c.def_ 6 (d := dd_Shelf_waited) rfl
  obtain ⟨d7, F7⟩ := c.def_ 7 (d := dd_Shelf_with_unit) rfl
  obtain ⟨d8, F8⟩ := c.def_ 8 (d := dd_at_once) rfl
  obtain ⟨d9, F9⟩ := c.def_ 9 (d := dd_causes) rfl
  obtain ⟨d10, F10⟩ := c.def_ 10 (d := dd_chain_to) rfl
  obtain ⟨d11, F11⟩ := c.def_ 11 (d := dd_chain) rfl
  obtain ⟨d12, F12⟩ := c.def_ 12 (d := dd_next_in) rfl
  obtain ⟨d13, F13⟩ := c.def_ 13 (d := dd_free_order) rfl
  obtain ⟨d14, F14⟩ := c.def_ 14 (d := dd_ring_in) rfl
  obtain ⟨d15, F15⟩ := c.def_ 15 (d := dd_knot_in) rfl
  obtain ⟨d16, F16⟩ := c.def_ 16 (d := dd_Rule_init) rfl
  obtain ⟨d17, F17⟩ := c.def_ 17 (d := dd_Rule_eq) rfl
  obtain ⟨d18, F18⟩ := c.def_ 18 (d := dd_Rule_str) rfl
  obtain ⟨d19, F19⟩ := c.def_ 19 (d := dd_Unit_init) rfl
  obtain ⟨d20, F20⟩ := c.def_ 20 (d := dd_Unit_eq) rfl
  obtain ⟨d21, F21⟩ := c.def_ 21 (d := dd_is_name) rfl
  obtain ⟨d22, F22⟩ := c.def_ 22 (d := dd_number_in) rfl
  obtain ⟨d23, F23⟩ := c.def_ 23 (d := dd_show_unit) rfl
  obtain ⟨d24, F24⟩ := c.def_ 24 (d := dd_show_shelf) rfl
  obtain ⟨d25, F25⟩ := c.def_ 25 (d := dd_read_head) rfl
  obtain ⟨d26, F26⟩ := c.def_ 26 (d := dd_read_lines) rfl
  obtain ⟨d27, F27⟩ := c.def_ 27 (d := dd_read_names) rfl
  obtain ⟨d28, F28⟩ := c.def_ 28 (d := dd_read_opens) rfl
  obtain ⟨d29, F29⟩ := c.def_ 29 (d := dd_read_rule) rfl
  obtain ⟨d30, F30⟩ := c.def_ 30 (d := dd_read_unit) rfl
  obtain ⟨d31, F31⟩ := c.def_ 31 (d := dd_read_shelf) rfl
  obtain ⟨d32, F32⟩ := c.def_ 32 (d := dd_law_bag) rfl
  obtain ⟨d33, F33⟩ := c.def_ 33 (d := dd_law_take) rfl
  obtain ⟨d34, F34⟩ := c.def_ 34 (d := dd_law_name) rfl
  obtain ⟨d35, F35⟩ := c.def_ 35 (d := dd_law_names) rfl
  obtain ⟨d36, F36⟩ := c.def_ 36 (d := dd_law_rule_parts) rfl
  obtain ⟨d37, F37⟩ := c.def_ 37 (d := dd_law_rule) rfl
  obtain ⟨d38, F38⟩ := c.def_ 38 (d := dd_law_some) rfl
  obtain ⟨d39, F39⟩ := c.def_ 39 (d := dd_law_facts) rfl
  obtain ⟨d40, F40⟩ := c.def_ 40 (d := dd_law_unit) rfl
  obtain ⟨d41, F41⟩ := c.def_ 41 (d := dd_law_units) rfl
  obtain ⟨d42, F42⟩ := c.def_ 42 (d := dd_law_needing) rfl
  obtain ⟨d43, F43⟩ := c.def_ 43 (d := dd_law_barred) rfl
  obtain ⟨d44, F44⟩ := c.def_ 44 (d := dd_law_waited) rfl
  obtain ⟨d45, F45⟩ := c.def_ 45 (d := dd_law_unit_text) rfl
  obtain ⟨d46, F46⟩ := c.def_ 46 (d := dd_law_shelf_text) rfl
  obtain ⟨d47, F47⟩ := c.def_ 47 (d := dd_law_shelf_right) rfl
  obtain ⟨d48, F48⟩ := c.def_ 48 (d := dd_law_told) rfl
  obtain ⟨d49, F49⟩ := c.def_ 49 (d := dd_law_more) rfl
  obtain ⟨d50, F50⟩ := c.def_ 50 (d := dd_law) rfl
  let T : Txt K mg := {
    d_Shelf_init := d0
    F_Shelf_init := F0
    b2_Shelf_init := UP.binds_all (FunD.binds1 (ps := ["self", "units"]) F0 2 1 (List.cons_ne_nil _ _) rfl fun _ _ _ _ _ _ _ us its h1 h2 => match us, its, h1, h2 with | [_, _], [_], _, _ => ⟨_, rfl, rfl⟩)
    b1_Shelf_init := FunD.binds1 (ps := ["self", "units"]) F0 1 0 (List.cons_ne_nil _ _) rfl fun _ _ _ _ _ _ _ us its h1 h2 => match us, its, h1, h2 with | [_], [_], _, _ => ⟨_, rfl, rfl⟩
    d_Shelf_names := d1
    F_Shelf_names := F1
    b_Shelf_names := FunD.bindsN (ps := ["self"]) F1 fun _ _ _ _ _ _ us hl => match us, hl with | [_], _ => rfl
    d_Shelf_has := d2
    F_Shelf_has := F2
    b_Shelf_has := FunD.bindsN (ps := ["self", "name"]) F2 fun _ _ _ _ _ _ us hl => match us, hl with | [_, _], _ => rfl
    d_Shelf_unit := d3
    F_Shelf_unit := F3
    b_Shelf_unit := FunD.bindsN (ps := ["self", "name"]) F3 fun _ _ _ _ _ _ us hl => match us, hl with | [_, _], _ => rfl
    d_Shelf_needing := d4
    F_Shelf_needing := F4
    b_Shelf_needing := FunD.bindsN (ps := ["self", "name"]) F4 fun _ _ _ _ _ _ us hl => match us, hl with | [_, _], _ => rfl
    d_Shelf_barred := d5
    F_Shelf_barred := F5
    b_Shelf_barred := FunD.bindsN (ps := ["self", "name"]) F5 fun _ _ _ _ _ _ us hl => match us, hl with | [_, _], _ => rfl
    d_Shelf_waited := d6
    F_Shelf_waited := F6
    b_Shelf_waited := FunD.bindsN (ps := ["self", "name"]) F6 fun _ _ _ _ _ _ us hl => match us, hl with | [_, _], _ => rfl
    d_Shelf_with_unit := d7
    F_Shelf_with_unit := F7
    b_Shelf_with_unit := FunD.bindsN (ps := ["self", "unit"]) F7 fun _ _ _ _ _ _ us hl => match us, hl with | [_, _], _ => rfl
    d_at_once := d8
    F_at_once := F8
    b_at_once := FunD.bindsN (ps := ["shelf", "demand"]) F8 fun _ _ _ _ _ _ us hl => match us, hl with | [_, _], _ => rfl
    d_causes := d9
    F_causes := F9
    b_causes := FunD.bindsN (ps := ["shelf", "demands"]) F9 fun _ _ _ _ _ _ us hl => match us, hl with | [_, _], _ => rfl
    d_chain_to := d10
    F_chain_to := F10
    b_chain_to := FunD.bindsN (ps := ["found", "goal"]) F10 fun _ _ _ _ _ _ us hl => match us, hl with | [_, _], _ => rfl
    d_chain := d11
    F_chain := F11
    b_chain := FunD.bindsN (ps := ["shelf", "demands", "goal"]) F11 fun _ _ _ _ _ _ us hl => match us, hl with | [_, _, _], _ => rfl
    d_next_in := d12
    F_next_in := F12
    b_next_in := FunD.bindsN (ps := ["waiting", "order"]) F12 fun _ _ _ _ _ _ us hl => match us, hl with | [_, _], _ => rfl
    d_free_order := d13
    F_free_order := F13
    b_free_order := FunD.bindsN (ps := ["shelf", "names"]) F13 fun _ _ _ _ _ _ us hl => match us, hl with | [_, _], _ => rfl
    d_ring_in := d14
    F_ring_in := F14
    b_ring_in := FunD.bindsN (ps := ["shelf", "stuck"]) F14 fun _ _ _ _ _ _ us hl => match us, hl with | [_, _], _ => rfl
    d_knot_in := d15
    F_knot_in := F15
    b_knot_in := FunD.bindsN (ps := ["shelf", "names"]) F15 fun _ _ _ _ _ _ us hl => match us, hl with | [_, _], _ => rfl
    d_Rule_init := d16
    F_Rule_init := F16
    d_Rule_eq := d17
    F_Rule_eq := F17
    b_Rule_eq := FunD.bindsN (ps := ["self", "other"]) F17 fun _ _ _ _ _ _ us hl => match us, hl with | [_, _], _ => rfl
    d_Rule_str := d18
    F_Rule_str := F18
    b_Rule_str := FunD.bindsN (ps := ["self"]) F18 fun _ _ _ _ _ _ us hl => match us, hl with | [_], _ => rfl
    d_Unit_init := d19
    F_Unit_init := F19
    d_Unit_eq := d20
    F_Unit_eq := F20
    b_Unit_eq := FunD.bindsN (ps := ["self", "other"]) F20 fun _ _ _ _ _ _ us hl => match us, hl with | [_, _], _ => rfl
    d_is_name := d21
    F_is_name := F21
    b_is_name := FunD.bindsN (ps := ["word"]) F21 fun _ _ _ _ _ _ us hl => match us, hl with | [_], _ => rfl
    d_number_in := d22
    F_number_in := F22
    b_number_in := FunD.bindsN (ps := ["word"]) F22 fun _ _ _ _ _ _ us hl => match us, hl with | [_], _ => rfl
    d_show_unit := d23
    F_show_unit := F23
    b_show_unit := FunD.bindsN (ps := ["unit"]) F23 fun _ _ _ _ _ _ us hl => match us, hl with | [_], _ => rfl
    d_show_shelf := d24
    F_show_shelf := F24
    b_show_shelf := FunD.bindsN (ps := ["shelf"]) F24 fun _ _ _ _ _ _ us hl => match us, hl with | [_], _ => rfl
    d_read_head := d25
    F_read_head := F25
    b_read_head := FunD.bindsN (ps := ["line"]) F25 fun _ _ _ _ _ _ us hl => match us, hl with | [_], _ => rfl
    d_read_lines := d26
    F_read_lines := F26
    b_read_lines := FunD.bindsN (ps := ["lines"]) F26 fun _ _ _ _ _ _ us hl => match us, hl with | [_], _ => rfl
    d_read_names := d27
    F_read_names := F27
    b_read_names := FunD.bindsN (ps := ["words", "own"]) F27 fun _ _ _ _ _ _ us hl => match us, hl with | [_, _], _ => rfl
    d_read_opens := d28
    F_read_opens := F28
    b_read_opens := FunD.bindsN (ps := ["words", "own", "kind"]) F28 fun _ _ _ _ _ _ us hl => match us, hl with | [_, _, _], _ => rfl
    d_read_rule := d29
    F_read_rule := F29
    b_read_rule := FunD.bindsN (ps := ["words"]) F29 fun _ _ _ _ _ _ us hl => match us, hl with | [_], _ => rfl
    d_read_unit := d30
    F_read_unit := F30
    b_read_unit := FunD.bindsN (ps := ["text"]) F30 fun _ _ _ _ _ _ us hl => match us, hl with | [_], _ => rfl
    d_read_shelf := d31
    F_read_shelf := F31
    b_read_shelf := FunD.bindsN (ps := ["text"]) F31 fun _ _ _ _ _ _ us hl => match us, hl with | [_], _ => rfl
    d_law_bag := d32
    F_law_bag := F32
    b_law_bag := FunD.bindsN (ps := ["_law_script", "_law_at"]) F32 fun _ _ _ _ _ _ us hl => match us, hl with | [_, _], _ => rfl
    d_law_take := d33
    F_law_take := F33
    b_law_take := FunD.bindsN (ps := ["_law_bag_here", "_law_size"]) F33 fun _ _ _ _ _ _ us hl => match us, hl with | [_, _], _ => rfl
    d_law_name := d34
    F_law_name := F34
    b_law_name := FunD.bindsN (ps := ["_law_bag_here"]) F34 fun _ _ _ _ _ _ us hl => match us, hl with | [_], _ => rfl
    d_law_names := d35
    F_law_names := F35
    b_law_names := FunD.bindsN (ps := ["_law_bag_here", "_law_size"]) F35 fun _ _ _ _ _ _ us hl => match us, hl with | [_, _], _ => rfl
    d_law_rule_parts := d36
    F_law_rule_parts := F36
    b_law_rule_parts := FunD.bindsN (ps := ["_law_bag_here"]) F36 fun _ _ _ _ _ _ us hl => match us, hl with | [_], _ => rfl
    d_law_rule := d37
    F_law_rule := F37
    b_law_rule := FunD.bindsN (ps := ["_law_five"]) F37 fun _ _ _ _ _ _ us hl => match us, hl with | [_], _ => rfl
    d_law_some := d38
    F_law_some := F38
    b_law_some := FunD.bindsN (ps := ["_law_bag_here", "_law_pool", "_law_most"]) F38 fun _ _ _ _ _ _ us hl => match us, hl with | [_, _, _], _ => rfl
    d_law_facts := d39
    F_law_facts := F39
    b_law_facts := FunD.bindsN (ps := ["_law_bag_here", "_law_most"]) F39 fun _ _ _ _ _ _ us hl => match us, hl with | [_, _], _ => rfl
    d_law_unit := d40
    F_law_unit := F40
    b_law_unit := FunD.bindsN (ps := ["_law_word", "_law_facts_here"]) F40 fun _ _ _ _ _ _ us hl => match us, hl with | [_, _], _ => rfl
    d_law_units := d41
    F_law_units := F41
    b_law_units := FunD.bindsN (ps := ["_law_facts_here"]) F41 fun _ _ _ _ _ _ us hl => match us, hl with | [_], _ => rfl
    d_law_needing := d42
    F_law_needing := F42
    b_law_needing := FunD.bindsN (ps := ["_law_facts_here", "_law_word"]) F42 fun _ _ _ _ _ _ us hl => match us, hl with | [_, _], _ => rfl
    d_law_barred := d43
    F_law_barred := F43
    b_law_barred := FunD.bindsN (ps := ["_law_facts_here", "_law_word"]) F43 fun _ _ _ _ _ _ us hl => match us, hl with | [_, _], _ => rfl
    d_law_waited := d44
    F_law_waited := F44
    b_law_waited := FunD.bindsN (ps := ["_law_facts_here", "_law_word"]) F44 fun _ _ _ _ _ _ us hl => match us, hl with | [_, _], _ => rfl
    d_law_unit_text := d45
    F_law_unit_text := F45
    b_law_unit_text := FunD.bindsN (ps := ["_law_word", "_law_facts_here"]) F45 fun _ _ _ _ _ _ us hl => match us, hl with | [_, _], _ => rfl
    d_law_shelf_text := d46
    F_law_shelf_text := F46
    b_law_shelf_text := FunD.bindsN (ps := ["_law_facts_here"]) F46 fun _ _ _ _ _ _ us hl => match us, hl with | [_], _ => rfl
    d_law_shelf_right := d47
    F_law_shelf_right := F47
    b_law_shelf_right := FunD.bindsN (ps := ["_law_shelf", "_law_facts_here"]) F47 fun _ _ _ _ _ _ us hl => match us, hl with | [_, _], _ => rfl
    d_law_told := d48
    F_law_told := F48
    b_law_told := FunD.bindsN (ps := ["_law_bag_here", "_law_shelf", "_law_words"]) F48 fun _ _ _ _ _ _ us hl => match us, hl with | [_, _, _], _ => rfl
    d_law_more := d49
    F_law_more := F49
    b_law_more := FunD.bindsN (ps := ["_law_bag_here", "_law_shelf", "_law_facts_here"]) F49 fun _ _ _ _ _ _ us hl => match us, hl with | [_, _, _], _ => rfl
    d_law := d50
    F_law := F50
    b_law := FunD.bindsN (ps := ["_law_script"]) F50 fun _ _ _ _ _ _ us hl => match us, hl with | [_], _ => rfl
    me_Shelf_names := He.meth_ok (c.fact 0 (f := .meth "Shelf" "names") rfl)
    me_Shelf_has := He.meth_ok (c.fact 1 (f := .meth "Shelf" "has") rfl)
    me_Shelf_unit := He.meth_ok (c.fact 2 (f := .meth "Shelf" "unit") rfl)
    me_Shelf_needing := He.meth_ok (c.fact 3 (f := .meth "Shelf" "needing") rfl)
    me_Shelf_barred := He.meth_ok (c.fact 4 (f := .meth "Shelf" "barred") rfl)
    me_Shelf_waited := He.meth_ok (c.fact 5 (f := .meth "Shelf" "waited") rfl)
    me_Shelf_with_unit := He.meth_ok (c.fact 6 (f := .meth "Shelf" "with_unit") rfl)
    m_at_once := He.glo_ok X G (c.fact 7 (f := .glo "at_once") rfl)
    m_causes := He.glo_ok X G (c.fact 8 (f := .glo "causes") rfl)
    m_chain_to := He.glo_ok X G (c.fact 9 (f := .glo "chain_to") rfl)
    m_chain := He.glo_ok X G (c.fact 10 (f := .glo "chain") rfl)
    m_next_in := He.glo_ok X G (c.fact 11 (f := .glo "next_in") rfl)
    m_free_order := He.glo_ok X G (c.fact 12 (f := .glo "free_order") rfl)
    m_ring_in := He.glo_ok X G (c.fact 13 (f := .glo "ring_in") rfl)
    m_knot_in := He.glo_ok X G (c.fact 14 (f := .glo "knot_in") rfl)
    me_Rule_eq := He.meth_ok (c.fact 15 (f := .meth "Rule" "__eq__") rfl)
    me_Rule_str := He.meth_ok (c.fact 16 (f := .meth "Rule" "__str__") rfl)
    me_Unit_eq := He.meth_ok (c.fact 17 (f := .meth "Unit" "__eq__") rfl)
    m_is_name := He.glo_ok X G (c.fact 18 (f := .glo "is_name") rfl)
    m_number_in := He.glo_ok X G (c.fact 19 (f := .glo "number_in") rfl)
    m_show_unit := He.glo_ok X G (c.fact 20 (f := .glo "show_unit") rfl)
    m_show_shelf := He.glo_ok X G (c.fact 21 (f := .glo "show_shelf") rfl)
    m_read_head := He.glo_ok X G (c.fact 22 (f := .glo "read_head") rfl)
    m_read_lines := He.glo_ok X G (c.fact 23 (f := .glo "read_lines") rfl)
    m_read_names := He.glo_ok X G (c.fact 24 (f := .glo "read_names") rfl)
    m_read_opens := He.glo_ok X G (c.fact 25 (f := .glo "read_opens") rfl)
    m_read_rule := He.glo_ok X G (c.fact 26 (f := .glo "read_rule") rfl)
    m_read_unit := He.glo_ok X G (c.fact 27 (f := .glo "read_unit") rfl)
    m_read_shelf := He.glo_ok X G (c.fact 28 (f := .glo "read_shelf") rfl)
    m_law_bag := He.glo_ok X G (c.fact 29 (f := .glo "_law_bag") rfl)
    m_law_take := He.glo_ok X G (c.fact 30 (f := .glo "_law_take") rfl)
    m_law_name := He.glo_ok X G (c.fact 31 (f := .glo "_law_name") rfl)
    m_law_names := He.glo_ok X G (c.fact 32 (f := .glo "_law_names") rfl)
    m_law_rule_parts := He.glo_ok X G (c.fact 33 (f := .glo "_law_rule_parts") rfl)
    m_law_rule := He.glo_ok X G (c.fact 34 (f := .glo "_law_rule") rfl)
    m_law_some := He.glo_ok X G (c.fact 35 (f := .glo "_law_some") rfl)
    m_law_facts := He.glo_ok X G (c.fact 36 (f := .glo "_law_facts") rfl)
    m_law_unit := He.glo_ok X G (c.fact 37 (f := .glo "_law_unit") rfl)
    m_law_units := He.glo_ok X G (c.fact 38 (f := .glo "_law_units") rfl)
    m_law_needing := He.glo_ok X G (c.fact 39 (f := .glo "_law_needing") rfl)
    m_law_barred := He.glo_ok X G (c.fact 40 (f := .glo "_law_barred") rfl)
    m_law_waited := He.glo_ok X G (c.fact 41 (f := .glo "_law_waited") rfl)
    m_law_unit_text := He.glo_ok X G (c.fact 42 (f := .glo "_law_unit_text") rfl)
    m_law_shelf_text := He.glo_ok X G (c.fact 43 (f := .glo "_law_shelf_text") rfl)
    m_law_shelf_right := He.glo_ok X G (c.fact 44 (f := .glo "_law_shelf_right") rfl)
    m_law_told := He.glo_ok X G (c.fact 45 (f := .glo "_law_told") rfl)
    m_law_more := He.glo_ok X G (c.fact 46 (f := .glo "_law_more") rfl)
    m_law := He.glo_ok X G (c.fact 47 (f := .glo "law") rfl)
    m_Shelf := He.glo_ok X G (c.fact 48 (f := .glo "Shelf") rfl)
    cl_Shelf := He.cls_ok (c.fact 49 (f := .cls "Shelf") rfl)
    mk_Shelf := He.mkr_ok (c.fact 50 (f := .mkr "Shelf") rfl)
    na_Shelf_by_name := He.noat_ok (c.fact 51 (f := .noat "Shelf" "by_name") rfl)
    m_Rule := He.glo_ok X G (c.fact 52 (f := .glo "Rule") rfl)
    cl_Rule := He.cls_ok (c.fact 53 (f := .cls "Rule") rfl)
    mk_Rule := He.mkr_ok (c.fact 54 (f := .mkr "Rule") rfl)
    na_Rule_first := He.noat_ok (c.fact 55 (f := .noat "Rule" "first") rfl)
    na_Rule_times := He.noat_ok (c.fact 56 (f := .noat "Rule" "times") rfl)
    na_Rule_top := He.noat_ok (c.fact 57 (f := .noat "Rule" "top") rfl)
    na_Rule_burst := He.noat_ok (c.fact 58 (f := .noat "Rule" "burst") rfl)
    na_Rule_span := He.noat_ok (c.fact 59 (f := .noat "Rule" "span") rfl)
    m_Unit := He.glo_ok X G (c.fact 60 (f := .glo "Unit") rfl)
    cl_Unit := He.cls_ok (c.fact 61 (f := .cls "Unit") rfl)
    mk_Unit := He.mkr_ok (c.fact 62 (f := .mkr "Unit") rfl)
    na_Unit_name := He.noat_ok (c.fact 63 (f := .noat "Unit" "name") rfl)
    na_Unit_kind := He.noat_ok (c.fact 64 (f := .noat "Unit" "kind") rfl)
    na_Unit_needs := He.noat_ok (c.fact 65 (f := .noat "Unit" "needs") rfl)
    na_Unit_wants := He.noat_ok (c.fact 66 (f := .noat "Unit" "wants") rfl)
    na_Unit_bars := He.noat_ok (c.fact 67 (f := .noat "Unit" "bars") rfl)
    na_Unit_after := He.noat_ok (c.fact 68 (f := .noat "Unit" "after") rfl)
    na_Unit_opens := He.noat_ok (c.fact 69 (f := .noat "Unit" "opens") rfl)
    na_Unit_rule := He.noat_ok (c.fact 70 (f := .noat "Unit" "rule") rfl)
    m_NoUnit := He.glo_ok X G (c.fact 71 (f := .glo "NoUnit") rfl)
    m_NoShelf := He.glo_ok X G (c.fact 72 (f := .glo "NoShelf") rfl)
    m_UnitError := He.glo_ok X G (c.fact 73 (f := .glo "UnitError") rfl)
    m_NoText := He.glo_ok X G (c.fact 74 (f := .glo "NoText") rfl)
    c_MOST := He.int_ok X G (c.fact 75 (f := .int "MOST" 16) rfl)
    c_LETTERS := He.str_ok X G (c.fact 76 (f := .str "LETTERS" "abcdefghijklmnopqrstuvwxyz") rfl)
    c_FIGURES := He.str_ok X G (c.fact 77 (f := .str "FIGURES" "0123456789") rfl)
    c_LONGEST_NAME := He.int_ok X G (c.fact 78 (f := .int "LONGEST_NAME" 8) rfl)
    c_LONGEST_NUMBER := He.int_ok X G (c.fact 79 (f := .int "LONGEST_NUMBER" 7) rfl)
    m_KINDS := He.glo_ok X G (c.fact 80 (f := .glo "KINDS") rfl)
    m_LINE_WORDS := He.glo_ok X G (c.fact 81 (f := .glo "LINE_WORDS") rfl)
    c_MOST_NAMES := He.int_ok X G (c.fact 82 (f := .int "MOST_NAMES" 8) rfl)
    m_RULE_BOUNDS := He.glo_ok X G (c.fact 83 (f := .glo "RULE_BOUNDS") rfl)
    n_len := He.free_ok X G (c.fact 84 (f := .free "len") rfl)
    n_sorted := He.free_ok X G (c.fact 85 (f := .free "sorted") rfl)
    n_isinstance := He.free_ok X G (c.fact 86 (f := .free "isinstance") rfl)
    n_str := He.free_ok X G (c.fact 87 (f := .free "str") rfl)
    n_list := He.free_ok X G (c.fact 88 (f := .free "list") rfl)
    n_all := He.free_ok X G (c.fact 89 (f := .free "all") rfl)
    n_int := He.free_ok X G (c.fact 90 (f := .free "int") rfl)
    n_enumerate := He.free_ok X G (c.fact 91 (f := .free "enumerate") rfl)
    n_tuple := He.free_ok X G (c.fact 92 (f := .free "tuple") rfl)
    n_zip := He.free_ok X G (c.fact 93 (f := .free "zip") rfl)
    n_set := He.free_ok X G (c.fact 94 (f := .free "set") rfl)
    n_abs := He.free_ok X G (c.fact 95 (f := .free "abs") rfl)
    n_range := He.free_ok X G (c.fact 96 (f := .free "range") rfl)
    n_dict := He.free_ok X G (c.fact 97 (f := .free "dict") rfl)
    n_max := He.free_ok X G (c.fact 98 (f := .free "max") rfl)
    n_min := He.free_ok X G (c.fact 99 (f := .free "min") rfl)
    n_repr := He.free_ok X G (c.fact 100 (f := .free "repr") rfl)
    ix_Unit := UO.insB_ok (He.ba (He.ba (He.ba (He.ba (He.ba (He.ba (He.ba (He.ba (He.ba (He.ba (He.ba (He.ba cx).1).1).1).1).1).1).1).1).1).1).1).1
    ix_Rule := UO.insB_ok (He.ba (He.ba (He.ba (He.ba (He.ba (He.ba (He.ba (He.ba (He.ba (He.ba (He.ba (He.ba cx).1).1).1).1).1).1).1).1).1).1).1).2
    e0_Unit_init_needs := fun H => UO.tup0B_ok (He.ba (He.ba (He.ba (He.ba (He.ba (He.ba (He.ba (He.ba (He.ba (He.ba (He.ba cx).1).1).1).1).1).1).1).1).1).1).2 H
    e0_Unit_init_wants := fun H => UO.tup0B_ok (He.ba (He.ba (He.ba (He.ba (He.ba (He.ba (He.ba (He.ba (He.ba (He.ba cx).1).1).1).1).1).1).1).1).1).2 H
    e0_Unit_init_bars := fun H => UO.tup0B_ok (He.ba (He.ba (He.ba (He.ba (He.ba (He.ba (He.ba (He.ba (He.ba cx).1).1).1).1).1).1).1).1).2 H
    e0_Unit_init_after := fun H => UO.tup0B_ok (He.ba (He.ba (He.ba (He.ba (He.ba (He.ba (He.ba (He.ba cx).1).1).1).1).1).1).1).2 H
    px_Unit_Rule := UO.pairB_ok (He.ba (He.ba (He.ba (He.ba (He.ba (He.ba (He.ba cx).1).1).1).1).1).1).2
    px_Rule_Unit := UO.pairB_ok (He.ba (He.ba (He.ba (He.ba (He.ba (He.ba cx).1).1).1).1).1).2
    e1_Shelf_init := fun H => UO.tup0B_ok (He.ba (He.ba (He.ba (He.ba (He.ba cx).1).1).1).1).2 H
    bx_NoText := UF.bareB_ok ((He.ba (He.ba (He.ba (He.ba cx).1).1).1).2)
    gt_KINDS := UB.gtB_ok ((He.ba (He.ba (He.ba cx).1).1).2)
    gt_LINE_WORDS := UB.gtB_ok ((He.ba (He.ba cx).1).2)
    gt_RULE_BOUNDS := UB.gtB_ok ((He.ba cx).2)
    kb_Rule_init_1_first_times_top_burst_span := kb_Rule_init_1_first_times_top_burst_span_mk F16
    kb_Unit_init_2_kind_needs_wants_bars_after_opens_rule := kb_Unit_init_2_kind_needs_wants_bars_after_opens_rule_mk F19 }
  have e := hfa.symm.trans T.m_law
  cases e
  have b := FunD.bindsA (ps := ["_law_script"]) T.F_law fun _ _ _ _ _ _ us hl => match us, hl with | [_], _ => rfl
  exact ⟨T.d_law, fun s v => b s [v] rfl, fun base _ _ => ok_law T⟩
end K24
open PySem PySem.W PySem.Calls PyProof.Rows
set_option maxRecDepth 100000 in
set_option maxHeartbeats 0 in
theorem PySem.Challenge.cw_unitwants_k24_shelves_never_change_holds : PySem.Challenge.rw_unitwants_k24_shelves_never_change.Holds := by
  w_on; o_law
  refine HandSHeadRun.head_any (r := OpenLaw.row PySem.Challenge.rw_unitwants_k24_shelves_never_change) (q := view (OpenLaw.row PySem.Challenge.rw_unitwants_k24_shelves_never_change).prog [64]) (H := K24.hk) (ob := K24.ob) (M := 8000) (loose := K24.lo) (d := HandSHeadRun.topDef (OpenLaw.row PySem.Challenge.rw_unitwants_k24_shelves_never_change).prog 64) (kwd := []) K24.ob_eq
    (by kernel_rfl) (fun s => by kernel_rfl) K24.run (by kernel_rfl) (by kernel_rfl) (by kernel_rfl) (by rfl) (by first | assumption | decide +kernel) (by decide +kernel) ⟨rfl, rfl, rfl, rfl, rfl, by decide +kernel⟩ ?hw ?hc
  case hw => w_witness2
  case hc =>
    refine UG.endG (l := PySem.Challenge.rw_unitwants_k24_shelves_never_change) (n := 63) (k := 10) (y := "_law_script") (CX := L2.CX0) rfl (by decide) (by kernel_rfl) ⟨rfl, by decide, by decide⟩ ?F (fun _ _ _ _ z => z)
    intro w mg fa h Y G hmg0
    obtain ⟨K, KX, c, cx⟩ := Y
    have hmg : mg ("law" : PySem.Str) = some (.ref fa) := by
      have e : (HandSHeadRun.topDef (OpenLaw.row PySem.Challenge.rw_unitwants_k24_shelves_never_change).prog 64).name = ("law" : PySem.Str) := by kernel_rfl
      rw [← e]
      exact hmg0
    obtain ⟨fd, hb, hF⟩ := K24.facts (P := (PySem.Challenge.rw_unitwants_k24_shelves_never_change).prog) (w := w) KX G hmg c cx
    exact ⟨K, fd, K24.sp_law K, KX, hb, fun H a ns hl hS => ⟨a, ns, rfl, hS, hl, fun _ => rfl⟩, hF⟩
