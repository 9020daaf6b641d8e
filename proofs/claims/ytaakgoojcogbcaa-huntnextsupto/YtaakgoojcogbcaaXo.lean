/- What matches depends on the kinds and the sets of singles alone (pure). -/
import Derived.Test.YtaakgoojcogbcaaXj
import Derived.Test.YtaakgoojcogbcaaZFrm
import Derived.Test.YtaakgoojcogbcaaZTha
namespace Go.Proofs.Ytaakgoojcogbcaa
open Go.RowKit
theorem fr_k {line : List UInt8} {t u : Th} {p : Nat} (h : u.k = t.k) : fr line u p = fr line t p := by unfold fr; rw [h]
theorem Req.tk1 {l rl : List Th} (h : Req l rl) (j b : Nat) : tk1 (th rl j) b = tk1 (th l j) b := by
  unfold Go.Proofs.Ytaakgoojcogbcaa.tk1
  rw [h.k j]
  by_cases hk : (th l j).k = 0
  · rw [h.s j (by omega)]
  · rw [decide_eq_false hk]; rfl
theorem Req.tkm {l rl : List Th} (h : Req l rl) (j b : Nat) : tkm (th rl j) b = tkm (th l j) b := by
  unfold Go.Proofs.Ytaakgoojcogbcaa.tkm
  rw [h.k j]
  by_cases hk : (th l j).k = 1
  · rw [h.s j (by omega)]
  · rw [decide_eq_false hk]; rfl
theorem Req.Pb {l rl : List Th} (h : Req l rl) (line : List UInt8) (p : Nat) (v : Nat → Bool) : ∀ k, Pb rl line p v k = Pb l line p v k
  | 0 => rfl
  | k + 1 => by
    unfold Go.Proofs.Ytaakgoojcogbcaa.Pb
    rw [fr_k (h.k k), Req.Pb h line p v k]
theorem Req.Rb {l rl : List Th} (h : Req l rl) (b : Nat) (v : Nat → Bool) (k : Nat) : Rb rl b v k = Rb l b v k := by
  unfold Go.Proofs.Ytaakgoojcogbcaa.Rb
  rw [h.tk1, h.tkm, h.len]
theorem Req.V {l rl : List Th} (h : Req l rl) (line : List UInt8) (s : Nat) : ∀ p, V rl line s p = V l line s p
  | 0 => by
    unfold Go.Proofs.Ytaakgoojcogbcaa.V
    split
    · funext k; exact h.Pb line 0 _ k
    · rfl
  | p + 1 => by
    unfold Go.Proofs.Ytaakgoojcogbcaa.V
    split
    · funext k; exact h.Pb line (p + 1) _ k
    · funext k
      rw [h.Pb, Req.V h line s p]
      have : Go.Proofs.Ytaakgoojcogbcaa.Rb rl (bn line p) (Go.Proofs.Ytaakgoojcogbcaa.V l line s p) = Go.Proofs.Ytaakgoojcogbcaa.Rb l (bn line p) (Go.Proofs.Ytaakgoojcogbcaa.V l line s p) := by funext k; exact h.Rb _ _ k
      rw [this]
theorem Req.M {l rl : List Th} (h : Req l rl) (line : List UInt8) (s b : Nat) : M rl line s b = M l line s b := by
  unfold Go.Proofs.Ytaakgoojcogbcaa.M; rw [h.V, h.len]
theorem Req.FS {l rl : List Th} (h : Req l rl) {line : List UInt8} {f a b : Nat} {ok : Bool} (hf : FS rl line f a b ok) : FS l line f a b ok := by
  unfold Go.Proofs.Ytaakgoojcogbcaa.FS at hf ⊢
  simp only [h.M] at hf
  exact hf
/-- the kinds that are read -/
def Kin (l : List Th) : Prop := ∀ t ∈ l, t.k ≤ 5
theorem Kin.snoc {l : List Th} {t : Th} (h : Kin l) (ht : t.k ≤ 5) : Kin (l ++ [t]) := fun u hu => by
  rcases List.mem_append.1 hu with h1 | h1
  · exact h u h1
  · rw [List.mem_singleton.1 h1]; exact ht
theorem Kin.drop {l : List Th} (h : Kin l) : Kin l.dropLast := fun u hu => h u (List.dropLast_subset l hu)
theorem rd1_kin {p : List UInt8} {i : Nat} {l : List Th} (h : Kin l) : Kin (rd1 p i l).2.2 := by
  unfold rd1
  repeat' split
  all_goals dsimp only
  all_goals first | exact h | (refine Kin.snoc h ?_; simp [one, fre]; done) | (refine Kin.snoc h.drop ?_; simp [many]; done)
theorem rdA_kin (p : List UInt8) : ∀ (m i : Nat) (l : List Th), Kin l → Kin (rdA p m i l).2
  | 0, _, _, h => h
  | m + 1, i, l, h => by
    unfold rdA
    split
    · split
      · exact rdA_kin p m _ _ (rd1_kin h)
      · intro t ht; cases ht
    · exact h
theorem cmp_kin (p : List UInt8) : Kin (cmp p).2 := rdA_kin p _ _ _ (fun t ht => by cases ht)
theorem kin_th {l : List Th} (h : Kin l) {j : Nat} (hj : j < l.length) : (th l j).k ≤ 5 := by
  have : th l j ∈ l := by unfold th; simp [List.getD, hj]
  exact h _ this
end Go.Proofs.Ytaakgoojcogbcaa
/- The reference's search (pure): what begins too late is dropped on the way. -/
namespace Go.Proofs.Ytaakgoojcogbcaa
open Go.RowKit
/-- too late -/
def prn (ok : Bool) (a x : Nat) : Nat := if ok = true ∧ a < x then N0 else x
/-- free things passed, and what is too late dropped -/
def Qn (l : List Th) (line : List UInt8) (p : Nat) (ok : Bool) (a : Nat) (g : Nat → Nat) : Nat → Nat
  | 0 => prn ok a (g 0)
  | k + 1 => prn ok a (if fr line (th l k) p then min (g (k + 1)) (Qn l line p ok a g k) else g (k + 1))
theorem prn_le {ok : Bool} {a x T : Nat} (hT : T < N0) (h : ok = true → T ≤ a) : prn ok a x ≤ T ↔ x ≤ T := by
  unfold prn
  split
  · rename_i hh; have := h hh.1; omega
  · exact Iff.rfl
theorem Qn_le {l : List Th} {line : List UInt8} {p a : Nat} {ok : Bool} {g : Nat → Nat} {T : Nat} (hT : T < N0) (h : ok = true → T ≤ a) : ∀ k, Qn l line p ok a g k ≤ T ↔ Pn l line p g k ≤ T
  | 0 => by unfold Qn Pn; exact prn_le hT h
  | k + 1 => by
    have ih := Qn_le (l := l) (line := line) (p := p) (g := g) hT h k
    unfold Qn Pn
    rw [prn_le hT h]
    split
    · omega
    · exact Iff.rfl
theorem prn_N0 {ok : Bool} {a x : Nat} (h : x ≤ N0) : prn ok a x ≤ N0 := by unfold prn; split <;> omega
theorem Qn_N0 {l : List Th} {line : List UInt8} {p a : Nat} {ok : Bool} {g : Nat → Nat} (h : ∀ k, g k ≤ N0) : ∀ k, Qn l line p ok a g k ≤ N0
  | 0 => by unfold Qn; exact prn_N0 (h 0)
  | k + 1 => by
    unfold Qn
    apply prn_N0
    have := h (k + 1)
    split <;> omega
theorem prn_ok {a x : Nat} (h : prn true a x ≠ N0) : prn true a x ≤ a := by
  unfold prn at h ⊢
  split
  · rename_i hh; rw [if_pos hh] at h; exact absurd rfl h
  · rename_i hh
    have : ¬ a < x := fun h9 => hh ⟨rfl, h9⟩
    omega
theorem Qn_ok {l : List Th} {line : List UInt8} {p a : Nat} {g : Nat → Nat} {k : Nat} (h : Qn l line p true a g k ≠ N0) : Qn l line p true a g k ≤ a := by
  cases k with
  | zero => unfold Qn at h ⊢; exact prn_ok h
  | succ k => unfold Qn at h ⊢; exact prn_ok h
theorem Tells.mono {n cap cap' : Nat} {g : Nat → Nat} {C : Nat → Prop} {u : Nat → Nat → Bool} (h : Tells n cap g C u) (hc : cap' ≤ cap) : Tells n cap' g C u := fun T hT hT2 => h T hT (by omega)
/-- below which the vectors tell -/
def cp (ok : Bool) (a : Nat) : Nat := if ok then a + 1 else N0
/-- the state of the reference ahead of p -/
def PreR (l : List Th) (line : List UInt8) (f p : Nat) (g : Nat → Nat) (a b : Nat) (ok : Bool) : Prop := ∃ lim, Pre l line f p g a b ok (cp ok a) lim
theorem PreR.start (l : List Th) (line : List UInt8) (f : Nat) : PreR l line f f N0s 0 0 false := ⟨0, Pre.start l line f⟩
/-- the answer behind the place p, of the reference -/
theorem PreR.passed {l : List Th} {line : List UInt8} {f p a b : Nat} {g : Nat → Nat} {ok : Bool} {a' b' : Nat} {ok' : Bool} (h : PreR l line f p g a b ok) (hp : p ≤ line.length) (hN : line.length < N0) (hg : ∀ k, g k ≤ N0)
    (ht : Turns p (Qn l line p ok a (ins ok g p) l.length) a b ok a' b' ok') :
    PreR l line f (p + 1) (Rn l (bn line p) (Qn l line p ok a (ins ok g p))) a' b' ok' ∧ (ok' = true → (∀ k, k < l.length → Qn l line p ok a (ins ok g p) k = N0) → FS l line f a' b' ok') := by
  obtain ⟨lim, h⟩ := h
  have hc : ∀ T, T < cp ok a → ok = true → T ≤ a := fun T hT e => by unfold cp at hT; rw [e] at hT; simp at hT; omega
  have h1 : Tells l.length (cp ok a) (Qn l line p ok a (ins ok g p)) (fun s => f ≤ s ∧ s ≤ p ∧ (ok = true → s ≤ lim)) (fun s => V l line s p) := by
    intro T hT hT2 k hk
    rw [Qn_le hT (hc T hT2)]
    exact h.passed T hT hT2 k hk
  have hQ := Qn_N0 (l := l) (line := line) (p := p) (ok := ok) (a := a) (ins_N0 (ok := ok) (p := p) hg)
  have ha : ok' = true → a' < N0 := by
    intro e
    rcases ht with ⟨r1, _, r2, _⟩ | ⟨_, r2, _, r3⟩
    · have := hQ l.length; omega
    · rw [r2]
      have h9 := h.on (by rw [← r3]; exact e)
      have := h9.2.1
      have := h9.2.2.1
      omega
  have hcc : ok' = true → cp ok' a' ≤ cp ok a := by
    intro e
    have h0 := ha e
    subst e
    unfold cp
    rw [if_pos rfl]
    rcases ht with ⟨r1, r2, r3, _⟩ | ⟨_, r2, _, r3⟩
    · cases ok with
      | true => rw [if_pos rfl]; rcases r2 with r2 | r2; cases r2; omega
      | false => rw [if_neg (by decide)]; omega
    · rw [← r3, if_pos rfl, r2]; omega
  have hcap : cp ok' a' ≤ cp ok a := by
    cases hk : ok' with
    | true => have := hcc hk; rw [hk] at this; exact this
    | false =>
      have : ok = false := by
        rcases ht with ⟨_, _, _, _, e⟩ | ⟨_, _, _, e⟩
        · rw [hk] at e; cases e
        · rw [← e]; exact hk
      unfold cp; rw [this]; simp
  have h2 := h.step h1 (by omega) (hQ _) ht (fun e => by unfold cp; rw [e]; rfl) (fun e => ⟨by unfold cp; rw [e]; simp, hcc e⟩) ((h1.read).mono hcap)
  refine ⟨⟨_, h2⟩, fun e hd => ?_⟩
  subst e
  have h0 := ha rfl
  have h3 := hcc rfl
  refine h2.dead hp h1 (fun s a1 a2 => ⟨a1, ?_, ?_⟩) (by unfold cp at h3 ⊢; rw [if_pos rfl] at h3; omega) h0 (fun k hk => by rw [hd k hk]; exact h0)
  · have h4 := (h2.on rfl).2.2.1
    have h5 := (h2.on rfl).2.1
    split at h4 <;> rename_i e
    · have := (h.on e).2.2.1
      rw [if_pos e] at h5
      omega
    · rw [if_neg e] at h5; omega
  · intro e
    have h5 := (h2.on rfl).2.1
    rw [if_pos e] at h5
    omega
theorem PreR.done {l : List Th} {line : List UInt8} {f a b : Nat} {g : Nat → Nat} {ok : Bool} (h : PreR l line f (line.length + 1) g a b ok) : FS l line f a b ok := by
  obtain ⟨_, h⟩ := h
  exact h.done
end Go.Proofs.Ytaakgoojcogbcaa
/- Small calls of the reference's search: least, word, passes. -/
namespace Go.Proofs.Ytaakgoojcogbcaa
open Go.RowKit
/-- a place as the reference holds it: -1 is none -/
def rz (x : Nat) : Int := if x = N0 then -1 else (x : Int)
theorem rz_min {x y : Nat} (hx : x ≤ N0) (hy : y ≤ N0) : rz (min x y) = if rz x < 0 ∨ (0 ≤ rz y ∧ rz y < rz x) then rz y else rz x := by
  by_cases h1 : x = N0
  · have e1 : rz x = -1 := by unfold rz; rw [if_pos h1]
    rw [e1, if_pos (.inl (by omega)), show min x y = y by omega]
  · have e1 : rz x = (x : Int) := by unfold rz; rw [if_neg h1]
    rw [e1]
    by_cases h2 : y = N0
    · have e2 : rz y = -1 := by unfold rz; rw [if_pos h2]
      rw [e2, if_neg (by omega), show min x y = x by omega, e1]
    · have e2 : rz y = (y : Int) := by unfold rz; rw [if_neg h2]
      rw [e2]
      by_cases h3 : y < x
      · rw [if_pos (by omega), show min x y = y by omega, e2]
      · rw [if_neg (by omega), show min x y = x by omega, e1]
set_option maxHeartbeats 2000000 in
theorem least_any (a b : Int) (w : World) :
    Calls Try.prog 62 #[.int .i64 a, .int .i64 b] w fun e w' => e = .returned (.int .i64 (if a < 0 ∨ (0 ≤ b ∧ b < a) then b else a)) ∧ w' = w := by
  obtain ⟨R, HR⟩ : ∃ R, Hid ((if a < 0 ∨ (0 ≤ b ∧ b < a) then b else a) = R) := ⟨_, rfl⟩
  rw [HR.out]
  by_cases h1 : a < 0
  · have h1d : decide (a < 0) = true := decide_eq_true h1
    have HE : Hid (R = b) := by rw [← HR.out]; exact if_pos (.inl h1)
    go_enter Try.func62, Try.ntmps62
    go_wp2
    go_ret
    exact ⟨by rw [HE.out]; rfl, rfl⟩
  · have h1d : decide (a < 0) = false := decide_eq_false h1
    by_cases h2 : 0 ≤ b
    · have h2d : decide (0 ≤ b) = true := decide_eq_true h2
      by_cases h3 : b < a
      · have h3d : decide (b < a) = true := decide_eq_true h3
        have HE : Hid (R = b) := by rw [← HR.out]; exact if_pos (.inr ⟨h2, h3⟩)
        go_enter Try.func62, Try.ntmps62
        go_wp2
        go_ret
        exact ⟨by rw [HE.out]; rfl, rfl⟩
      · have h3d : decide (b < a) = false := decide_eq_false h3
        have HE : Hid (R = a) := by rw [← HR.out]; exact if_neg (by omega)
        go_enter Try.func62, Try.ntmps62
        go_wp2
        go_ret
        exact ⟨by rw [HE.out]; rfl, rfl⟩
    · have h2d : decide (0 ≤ b) = false := decide_eq_false h2
      have HE : Hid (R = a) := by rw [← HR.out]; exact if_neg (by omega)
      go_enter Try.func62, Try.ntmps62
      go_wp2
      go_ret
      exact ⟨by rw [HE.out]; rfl, rfl⟩
theorem leastz_any (x y : Nat) (hx : x ≤ N0) (hy : y ≤ N0) (w : World) : Calls Try.prog 62 #[.int .i64 (rz x), .int .i64 (rz y)] w fun e w' => e = .returned (.int .i64 (rz (min x y))) ∧ w' = w := by
  rw [rz_min hx hy]; exact least_any _ _ w
set_option maxRecDepth 8000 in
set_option maxHeartbeats 4000000 in
theorem rword_any (W : World) (ao : Option Addr) (nl cl : Nat) (line : List UInt8) (i : Int) (h0 : -1 ≤ i) (h1 : i ≤ nl) (HT : Hid (Tx W ao nl cl line)) :
    Calls Try.prog 86 #[.slice ao nl cl, .int .i64 i] W fun e W' => e = .returned (.bool (iw line i)) ∧ W' = W := by
  have hlen := HT.out.len
  have hbig := HT.out.big
  by_cases h2 : 0 ≤ i
  · by_cases h3 : i < (nl : Int)
    · obtain ⟨k, hk⟩ : ∃ k : Nat, i = (k : Int) := ⟨i.toNat, by omega⟩
      subst hk
      obtain ⟨g, o, e1, hc⟩ := HT.out.at (by omega)
      subst e1
      have cx : W.cell? ⟨g, o + k, none⟩ = some (.int .u8 (bn line k : Int)) := hc k (by omega)
      have CO := Hid.mk' (rof_any (bn line k : Int) false W)
      have HI : Hid (iw line (k : Int) = decide (kd (bn line k : Int) false = 2)) := iw_in h2 (by omega)
      generalize kd (bn line k : Int) false = K at *
      generalize bn line k = x at *
      clear hc
      go_enter Try.func86, Try.ntmps86
      go_wp2_with (go_at_call 42; refine CO.out.mono ?_; rintro e w' ⟨rfl, hw⟩; subst hw)
      all_goals go_ret
      all_goals refine ⟨?_, rfl⟩
      all_goals rw [HI.out]
      all_goals simp
      all_goals rfl
    · have HI : Hid (iw line i = false) := iw_out (by omega)
      have h3' : decide (i < (nl : Int)) = false := decide_eq_false h3
      go_enter Try.func86, Try.ntmps86
      go_wp2
      go_ret
      exact ⟨by rw [HI.out]; rfl, rfl⟩
  · have HI : Hid (iw line i = false) := iw_out (by omega)
    have h2' : decide (0 ≤ i) = false := decide_eq_false h2
    go_enter Try.func86, Try.ntmps86
    go_wp2
    go_ret
    exact ⟨by rw [HI.out]; rfl, rfl⟩
set_option maxRecDepth 8000 in
set_option maxHeartbeats 8000000 in
theorem passes_any (W : World) (ao : Option Addr) (nl cl : Nat) (line : List UInt8) (p k : Nat) (f : Nat → Bool) (hk : k ≤ 5) (hp : p ≤ nl) (HT : Hid (Tx W ao nl cl line)) :
    Calls Try.prog 63 #[.agg (tv k f), .slice ao nl cl, .int .i64 (p : Int)] W fun e W' => e = .returned (.bool (fr line ⟨k, f⟩ p)) ∧ Below W.heap.size W W' := by
  have hbig := HT.out.big
  have hlen := HT.out.len
  have hp' : (p : Int) ≤ (nl : Int) := by omega
  have hnb : (nl : Int) ≤ 140737488355328 := by omega
  have hv : (tv k f)[0]? = some (.int .i64 (k : Int)) := by simp [tv, tvl]
  have C1 := Hid.mk' (fun W' (h : Tx W' ao nl cl line) => rword_any W' ao nl cl line (p : Int) (by omega) hp' h)
  have C2 := Hid.mk' (fun W' (h : Tx W' ao nl cl line) => rword_any W' ao nl cl line ((p : Int) - 1) (by omega) (by omega) h)
  have HT1 := Hid.mk' (HT.out.keep (bAlloc (Below.refl _ _) (.cells (tv k f) 106)))
  have BB := Hid.mk' (bAlloc (Below.refl _ W) (.cells (tv k f) 106))
  obtain ⟨R, HR⟩ : ∃ R, Hid (fr line ⟨k, f⟩ p = R) := ⟨_, rfl⟩
  rw [HR.out]
  have HQ := HR.out
  unfold fr at HQ
  dsimp only at HQ
  rw [hlen] at HQ
  generalize tv k f = TV at *
  clear HR
  match k, hk with
  | 0, _ =>
    rw [if_pos rfl] at HQ
    subst HQ
    go_enter Try.func63, Try.ntmps63
    go_wp2
    go_ret
    exact ⟨rfl, BB.out⟩
  | 1, _ =>
    rw [if_neg (by decide), if_pos rfl] at HQ
    subst HQ
    go_enter Try.func63, Try.ntmps63
    go_wp2
    go_ret
    exact ⟨rfl, BB.out⟩
  | 2, _ =>
    rw [if_neg (by decide), if_neg (by decide), if_pos rfl] at HQ
    subst HQ
    by_cases h : p = 0
    · have h' : ((p : Int) == 0) = true := by simp; omega
      rw [decide_eq_true h]
      clear h
      go_enter Try.func63, Try.ntmps63
      go_wp2
      go_ret
      exact ⟨rfl, BB.out⟩
    · have h' : ((p : Int) == 0) = false := by simp; omega
      rw [decide_eq_false h]
      go_enter Try.func63, Try.ntmps63
      go_wp2
      go_ret
      exact ⟨rfl, BB.out⟩
  | 3, _ =>
    rw [if_neg (by decide), if_neg (by decide), if_neg (by decide), if_pos rfl] at HQ
    subst HQ
    by_cases h : p = nl
    · have h' : ((p : Int) == (nl : Int)) = true := by simp; omega
      rw [decide_eq_true h]
      clear h
      go_enter Try.func63, Try.ntmps63
      go_wp2
      go_ret
      exact ⟨rfl, BB.out⟩
    · have h' : ((p : Int) == (nl : Int)) = false := by simp; omega
      rw [decide_eq_false h]
      go_enter Try.func63, Try.ntmps63
      go_wp2
      go_ret
      exact ⟨rfl, BB.out⟩
  | 4, _ =>
    rw [if_neg (by decide), if_neg (by decide), if_neg (by decide), if_neg (by decide), if_pos rfl] at HQ
    generalize iw line (p : Int) = A at *
    generalize iw line ((p : Int) - 1) = B at *
    subst HQ
    cases A <;> cases B
    all_goals go_enter Try.func63, Try.ntmps63
    all_goals go_wp2_with (first | (go_at_call 86; with_reducible (refine (C1.out _ HT1.out).mono ?_); rintro e w' ⟨rfl, hw⟩; subst hw) | (go_at_call 86; with_reducible (refine (C2.out _ HT1.out).mono ?_); rintro e w' ⟨rfl, hw⟩; subst hw))
    all_goals go_ret
    all_goals exact ⟨rfl, BB.out⟩
  | 5, _ =>
    rw [if_neg (by decide), if_neg (by decide), if_neg (by decide), if_neg (by decide), if_neg (by decide)] at HQ
    generalize iw line (p : Int) = A at *
    generalize iw line ((p : Int) - 1) = B at *
    subst HQ
    cases A <;> cases B
    all_goals go_enter Try.func63, Try.ntmps63
    all_goals go_wp2_with (first | (go_at_call 86; with_reducible (refine (C1.out _ HT1.out).mono ?_); rintro e w' ⟨rfl, hw⟩; subst hw) | (go_at_call 86; with_reducible (refine (C2.out _ HT1.out).mono ?_); rintro e w' ⟨rfl, hw⟩; subst hw))
    all_goals go_ret
    all_goals exact ⟨rfl, BB.out⟩
end Go.Proofs.Ytaakgoojcogbcaa
