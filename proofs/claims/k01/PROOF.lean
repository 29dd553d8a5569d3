import PyProof.Rows.All
import Wide.All
import OpenK.AllK
import Wide.FinOn
import HandS.Base
import HandS.Call
import HandS.List
import HandS.Comp
import HandS.Ends
import HandS.Dict
import HandS.Iter
import HandS.Text
import HandS.Words
import HandS.WordsList
import PyProof.ReprRoads
import HandS.EndBits
import HandS.IsInst
import HandS.StrMore
import HandS.TupAny
import HandS.Conv
import PyProof.ReprLen
import PyProof.StrLawsRepr
import HandS.TupMul
import PyProof.StrLaws
import PySem.Challenge.RW_leadsever_k01_words_addresses_days
set_option Elab.async false
set_option linter.all false
set_option maxRecDepth 100000
set_option maxHeartbeats 8000000
/-! Own rules, for any of the laws of this package. -/
namespace Ld
open PySem L2 PyProof.Rows
/-! ### heaps: all stands but the well -/
/-- all that is tracked stays, but what is at wa -/
def Sb (wa : Addr) (H H' : Hp) : Prop := ∀ b o, b ≠ wa → H b = some o → H' b = some o
theorem Sb.refl (wa : Addr) (H : Hp) : Sb wa H H := fun _ _ _ e => e
theorem Sb.trans {wa : Addr} {H1 H2 H3 : Hp} (a : Sb wa H1 H2) (b : Sb wa H2 H3) : Sb wa H1 H3 := fun c o n e => b c o n (a c o n e)
theorem Sb.of {wa : Addr} {H H' : Hp} (s : Same H H') : Sb wa H H' := fun b o _ e => s b o e
theorem Sb.put (wa : Addr) (H : Hp) (o : HO) : Sb wa H (upd H wa o) := fun b u n e => by
  rw [upd_ne n]
  exact e
theorem Same.new {H : Hp} {p : Addr} {o : HO} (h : H p = none) : Same H (upd H p o) := fun b u e => by
  rw [upd_ne (ne_of_none e h)]
  exact e
/-- the well: its two numbers -/
def wellKv (d m : Int) : List (Key × V) := [(Sum.inr "digits", .int d), (Sum.inr "mixed", .int m)]
def Well (H : Hp) (wa : Addr) : Prop := ∃ d m : Int, H wa = some (.dK (wellKv d m)) ∧ 0 ≤ d ∧ 0 ≤ m ∧ m < 2 ^ 40
theorem Well.same {H H' : Hp} {wa : Addr} (W : Well H wa) (s : Same H H') : Well H' wa := by
  obtain ⟨d, m, h, r⟩ := W
  exact ⟨d, m, s _ _ h, r⟩
/-- what the well is not -/
def NotWell : HO → Prop
  | .dK kvs => kvs.length ≠ 2
  | _ => True
theorem Well.ne {H : Hp} {wa b : Addr} {o : HO} (W : Well H wa) (e : H b = some o) (n : NotWell o) : b ≠ wa := by
  obtain ⟨d, m, h, _⟩ := W
  intro z
  subst z
  rw [h] at e
  cases e
  exact n rfl
theorem Well.lst {H : Hp} {wa b : Addr} {xs : List V} (W : Well H wa) (e : H b = some (.lst xs)) : b ≠ wa := W.ne e trivial
section
variable {K : PySem.W.Frag} {H H' : Hp} {wa a : Addr} {xs : List V}
theorem rd_keep {u : HO} (W : Well H wa) (s : Sb wa H H') (n : NotWell u) (h : Rd H a u) : Rd H' a u := by
  rcases h with h | ⟨o, h⟩
  · exact .inl (s a _ (W.ne h n) h)
  · exact .inr ⟨o, s a _ (W.ne h trivial) h⟩
theorem seqL (W : Well H wa) (s : Sb wa H H') (h : SqL K H a xs) : SqL K H' a xs := by
  rcases h with h | h
  · exact .inl (rd_keep W s trivial h)
  · exact .inr h
theorem seqT (W : Well H wa) (s : Sb wa H H') (h : SqT K H a xs) : SqT K H' a xs := by
  rcases h with h | h
  · exact .inl (rd_keep W s trivial h)
  · exact .inr h
theorem same_T (s : Same H H') (h : SqT K H a xs) : SqT K H' a xs := by
  rcases h with (h | ⟨o, h⟩) | h
  · exact .inl (.inl (s _ _ h))
  · exact .inl (.inr ⟨o, s _ _ h⟩)
  · exact .inr h
end
/-! ### data that stays -/
section
variable {K : PySem.W.Frag} {H H' : Hp}
mutual
theorem dp_mono (hL : ∀ a xs, SqL K H a xs → SqL K H' a xs) (hT : ∀ a xs, SqT K H a xs → SqT K H' a xs) : ∀ (d : PyData) (v : V), Dp K H v d → Dp K H' v d
  | .none, _, h => by cases h; exact .non
  | .bool _, _, h => by cases h; exact .bl _
  | .int _, _, h => by cases h; exact .int _
  | .str _, _, h => by cases h; exact .str _
  | .list ds, _, h => by
    cases h with
    | lst a b => exact .lst (hL _ _ a) (dpAll_mono hL hT ds _ b)
  | .tuple ds, _, h => by
    cases h with
    | tup a b => exact .tup (hT _ _ a) (dpAll_mono hL hT ds _ b)
  | .dict _, _, h => by cases h
theorem dpAll_mono (hL : ∀ a xs, SqL K H a xs → SqL K H' a xs) (hT : ∀ a xs, SqT K H a xs → SqT K H' a xs) : ∀ (ds : List PyData) (vs : List V), DpAll K H vs ds → DpAll K H' vs ds
  | [], _, h => by cases h; exact .nil
  | d :: ds, _, h => by
    cases h with
    | cons a b => exact .cons (dp_mono hL hT d _ a) (dpAll_mono hL hT ds _ b)
end
theorem dp_same {v : V} {d : PyData} (s : Same H H') (h : Dp K H v d) : Dp K H' v d := dp_mono (fun _ _ q => s.seq q) (fun _ _ q => same_T s q) d v h
theorem dp_sb {wa : Addr} {v : V} {d : PyData} (W : Well H wa) (s : Sb wa H H') (h : Dp K H v d) : Dp K H' v d := dp_mono (fun _ _ q => seqL W s q) (fun _ _ q => seqT W s q) d v h
theorem dp_strs : ∀ ws : List Str, DpAll K H (ws.map V.str) (ws.map PyData.str)
  | [] => .nil
  | w :: ws => .cons (.str w) (dp_strs ws)
theorem dp_bools : ∀ ws : List Bool, DpAll K H (ws.map V.bl) (ws.map PyData.bool)
  | [] => .nil
  | w :: ws => .cons (.bl w) (dp_bools ws)
theorem dp_append : ∀ {vs ws : List V} {ds es : List PyData}, DpAll K H vs ds → DpAll K H ws es → DpAll K H (vs ++ ws) (ds ++ es)
  | [], _, _, _, .nil, h => h
  | _ :: _, _, _, _, .cons a b, h => .cons a (dp_append b h)
end
/-! ### numbers of any size that a script may give -/
section
variable {X : Cx}
def CMulB (i j : Int) : Prop := Builtin.Int.intBits i + Builtin.Int.intBits j ≤ 2 ^ 27
def CPowB (i j : Int) : Prop := 0 ≤ j ∧ (Builtin.Int.intBits i : Int) * j ≤ 2 ^ 27
theorem mulB_ok {i j : Int} (h : CMulB i j) : IntMulOk i j := by
  intro z
  have z2 := (Bool.and_eq_true_iff.mp z).2
  have z3 := of_decide_eq_true (show decide (((Builtin.Int.intBits i + Builtin.Int.intBits j : Nat) : Int) > bitsLine) = true from z2)
  have e : bitsLine = 2 ^ 27 := rfl
  rw [e] at z3
  have h' : Builtin.Int.intBits i + Builtin.Int.intBits j ≤ 2 ^ 27 := h
  omega
theorem op_mulB : OpR X (binaryOp .Mult) (rI CMulB fun i j => .int (i * j)) := opI fun i j t u s Q E hc q => mul_int q (mulB_ok hc)
theorem op_powB : OpR X (binaryOp .Pow) (rI CPowB fun i j => .int (i ^ j.toNat)) := opI fun i j t u s Q E hc q => pow_int hc.1 hc.2 q
theorem bits_of {i : Int} {n : Nat} (h : i.natAbs < 2 ^ n) : Builtin.Int.intBits i ≤ n := by
  unfold Builtin.Int.intBits
  split
  · exact Nat.zero_le _
  · rename_i hz
    have hz : ¬ i = 0 := fun e => hz (by rw [e]; rfl)
    have h0 : i.natAbs ≠ 0 := fun e => hz (Int.natAbs_eq_zero.mp e)
    have := (Nat.log2_lt h0).mpr h
    omega
theorem of_bits {i : Int} {n : Nat} (h : Builtin.Int.intBits i ≤ n) : i.natAbs < 2 ^ n := by
  unfold Builtin.Int.intBits at h
  by_cases hz : i = 0
  · subst hz
    exact Nat.two_pow_pos n
  · rw [if_neg (by simpa using hz)] at h
    exact (Nat.log2_lt (fun e => hz (Int.natAbs_eq_zero.mp e))).mp (by omega)
end
end Ld
/-! Defs that need to know that no repr runs around them. -/
namespace Ld
open PySem L2 PyProof.Rows
/-- the promise of a def, wherever no repr runs around -/
structure FnG (P : Program) (w : World) (K : PySem.W.Frag) (mg : Str → Option Value) (base : Heap) (k : Nat) (f : Addr) (fd : FuncData) (ps : List Str) (sp : Sp) : Prop where
  long : ∀ vs H Q E, sp vs H Q E → vs.length = ps.length
  goes : ∀ (A : Around) (outer : List Env) (s : Shared) (H : Hp) (args : Args) (us : List Value) (vs : List V) (Q : VK) (E : XK), A.guards = some [] → Room k A → Env0 P w K mg base A outer s H →
    BindsTo s fd args (ps.zip us) → Vals vs us → sp vs H Q E → codeAny (model P w) A (.call (.ref f) args) (CR CX0 outer P w H s Q E) s
section
variable {P : Program} {w : World} {K : PySem.W.Frag} {mg : Str → Option Value} {base : Heap} {k : Nat} {f : Addr} {fd : FuncData} {ps : List Str} {sp : Sp}
theorem FnG.of (F : FnOk P w K mg base CX0 k f fd ps sp) : FnG P w K mg base k f fd ps sp := ⟨F.len, fun A outer s H args us vs Q E _ => F.run A outer s H args us vs Q E⟩
/-- what a body leaves is what the call leaves -/
theorem ends_of {X : Cx} {pins : List (Addr × Obj)} {s' : Shared} {Q : VK} (hx : X.ex = []) {σ' : L2.St} {H' : Hp} {v : V} {u : Value} (J : Inv X pins σ' H' s') (r : RelV v u) (q : Q v H') :
    CE X.outer X.prog X.w X.H_0 X.s_0 Q u s' := by
  have b := J.base
  rw [hx] at b
  exact ⟨v, H', J.os, J.bare, b, J.hok, r, q⟩
/-- a def of the text by its body -/
theorem Fun.okG {x qual : Str} {st : Stmt} {N : List Str} (F : Fun K x qual st f fd) (S : FnScope N ps (defScope st)) (long : ∀ vs H Q E, sp vs H Q E → vs.length = ps.length)
    (body : ∀ (cdv : Value) (A : Around) (outer : List Env) (s : Shared) (H : Hp) (vs : List V) (Q : VK) (E : XK), A.guards = some [] → Room k (A.deeper (envOfC qual (defScope st) s.heap.objs.size f cdv)) → sp vs H Q E →
      ∃ t, PSs (cxOf CX0 P w K mg base N qual (defScope st) f cdv A outer s H E).nox (defBody st) t ∧ t { nx := fun _ H' => Q .non H', rt := Q } (start N vs) H) : FnG P w K mg base (k + 1) f fd ps sp := by
  obtain ⟨oc, od, kV, doc, pm, an, cdv, ct, osl, rfl, lk, hcd⟩ := F.ex
  refine ⟨long, fun A outer s H args us vs Q E hg hr e0 hb r hsp => ?_⟩
  have up : ∀ b o, base.get? b = some o → s.heap.get? b = some o := fun b o e => (e0.bs b o e).1
  have KX : K.In s.heap := e0.mod.kin.keeps up
  have kinds : ∀ y ∈ ps.zip us, (defScope st).names.lookup y.1 = some .local ∨ ((defScope st).names.lookup y.1 = some .cell ∧ ((cellsFrom (s.heap.objs.size + 1) (defScope st).names []).lookup y.1).isSome = true) := by
    rintro ⟨n, v⟩ hy
    rcases S.par n (List.of_mem_zip hy).1 with q | q
    · exact Or.inl q
    · exact Or.inr ⟨q, PySem.W.cellsFrom_some _ _ _ (Or.inl q)⟩
  refine codeAny_call_function hr.depth (KX _ _ lk) rfl S.co S.gen rfl (PySem.W.codeRec_of KX hcd) (hb _ _ _ _ ?_)
  refine wpAny_newFunctionEnv_cells S.kind kinds fun env he s1 x => ?_
  subst he
  refine ⟨(e0.mod.nolimit.keeps up).keeps x.toInCall.keep, codeAny_func ?_⟩
  obtain ⟨t, ht, hq⟩ := body cdv A outer s H vs Q E hg (hr.deeper _) hsp
  refine wpAny_mono (ht.nox.run [] s1 (start N vs) H _ (inv_start S hr.hd e0 (long _ _ _ _ hsp) r x) hq) (fun fl s' hs => ?_) fun e s' hs => hs
  cases fl with
  | ret u =>
    obtain ⟨v, σ', H', J, r, q⟩ := hs
    exact ends_of rfl J r q
  | next =>
    obtain ⟨σ', H', J, q⟩ := hs
    exact ends_of (v := .non) rfl J rfl q
  | brk =>
    obtain ⟨_, _, _, q⟩ := hs
    exact q.elim
  | cont =>
    obtain ⟨_, _, _, q⟩ := hs
    exact q.elim
end
section
variable {X : Cx} {k : Nat} {f : Addr} {fd : FuncData} {ps : List Str} {sp : Sp} {x : Str} {p pos : Pos} {e : Expr} {es : List Expr} {t : TA}
/-- f(e, ..) of such a def -/
theorem pe_callG (F : FnG X.prog X.w X.K X.mg X.base k f fd ps sp) (hG : X.A.guards = some []) (hr : Room k X.A) (hg : Gl X x) (hm : X.mg x = some (.ref f)) (hk : PySem.W.keepIn X.K (.ref f) = true) (hb : Binds X.K fd ps [])
    (ha : PA X (e :: es) t) (hdb : (x == ("__debug__" : Str)) = false := by decide) (he : starEach (e :: es) X.env = (false, eval e X.env) :: starEach es X.env := by rfl)
    (hpl : (backTo pos (starEach es X.env)).any (·.1) = false := by rfl) : PE X (.Call (.Name x p) (e :: es) [] pos) (tCall sp [] E0 t) := by
  refine ⟨fun pins s σ H Q I h => wpAny_Call_Name_kw (ld_glob I hg hm ?_ hdb)⟩
  refine PySem.W.callWith_K (h₀ := X.base) I.ok.mod.kin hk (thn (ha.run pos pins s σ H _ I h) fun us s1 ⟨vs, H1, I1, r, q⟩ => ⟨I1.kIn, ?_⟩) he hpl
  have q : sp (vs ++ []) H1 Q E0 := q
  rw [List.append_nil] at q
  have hl : us.length = ps.length := by
    rw [← r.length]
    exact F.long _ _ _ _ q
  have hb1 := hb s1 us I1.kIn (by rw [List.append_nil]; exact hl)
  rw [List.append_nil] at hb1
  refine wpAny_call (codeAny_mono (F.goes X.A X.stack s1 H1 ⟨us, []⟩ us vs Q E0 hG hr I1.env0 hb1 r q) fun z s2 hq => ?_)
  match z, hq with
  | .ok (.ret u), hq => exact I1.after hq
  | .ok .next, hq => exact False.elim hq
  | .ok .brk, hq => exact False.elim hq
  | .ok .cont, hq => exact False.elim hq
  | .error e, hq => exact False.elim hq
/-- repr of data -/
def Rds (K : PySem.W.Frag) (P : Program) (w : World) (H : Hp) (v : V) (d : PyData) : Prop := ∀ h : Heap, HOk P w H h → K.In h → ∀ u, RelV v u → ∃ as, Reads h u d as ∧ (d.hasDict = true → ¬ sysModules ∈ as)
def Small (d : PyData) : Prop := d.showable = true ∧ d.depth ≤ 40 ∧ d.shown.length ≤ sizeLine
theorem call_repr (hG : X.A.guards = some []) (hu : X.A.units + 64 < cLine) : CallR X (.builtin "repr") (fun xs H Q => ∃ v d, xs = [v] ∧ Rds X.K X.prog X.w H v d ∧ Small d ∧ Q (.str d.shown) H) := by
  intro pins s σ H xs us Q I r h
  obtain ⟨v, d, rfl, hR, ⟨h1, h2, h3⟩, q⟩ := h
  obtain ⟨u, rfl, ru⟩ := vals1 r
  obtain ⟨as, rd, hs⟩ := hR s.heap I.hok I.kIn u ru
  have fin : ∀ h' t tk, (∀ b o, s.heap.get? b = some o → h'.get? b = some o) → EP X pins σ Q (.str d.shown t) { s with heap := h', toks := tk } := fun h' t tk kp =>
    ⟨.str d.shown, H, I.kept kp, ⟨t, rfl⟩, q⟩
  cases v with
  | ref a =>
    cases ru
    exact repr_of_reads' rd h1 hs hG (by omega) (fun _ _ e => e) fin h3
  | non =>
    cases ru
    cases rd
    simp only [PyData.shown] at fin
    exact P.repr_of_none (fin s.heap _ _ fun _ _ e => e)
  | bl b =>
    cases ru
    cases rd
    simp only [PyData.shown] at fin
    exact P.repr_of_bool (fin s.heap _ _ fun _ _ e => e)
  | int i =>
    obtain ⟨t, rfl⟩ := ru
    cases rd
    simp only [PyData.shown] at fin
    exact P.repr_of_int (by simpa [PyData.showable] using h1) (fin s.heap _ _ fun _ _ e => e)
  | str x =>
    obtain ⟨t, rfl⟩ := ru
    cases rd
    simp only [PyData.shown] at fin h3
    exact P.repr_of_str (fin s.heap _ _ fun _ _ e => e) h3
  | byt b =>
    obtain ⟨t, rfl⟩ := ru
    cases rd
  | flt b =>
    obtain ⟨t, rfl⟩ := ru
    cases rd
  | ty n =>
    cases ru
    cases rd
end
end Ld
/-! The end of a law whose defs are of the kind FnG; the script's bits are told. -/
namespace Ld
open PySem L2 PyProof.Rows
section
variable {P : Program} {w : World} {K : PySem.W.Frag} {mg mb : Str → Option Value} {k : Nat} {fa a : Addr} {fd : FuncData} {x : Str} {sp : Sp} {s : Shared} {vs : List Value} {ns : List Int}
/-- what stands behind the law's call -/
def Behind (s : Shared) (r : Result) (s' : Shared) : Prop := r = .ok (.ret (.bool true)) ∧ OldK s.heap s'.heap ∧ s'.os = s.os ∧ AllBare s'.gens
/-- with nothing tracked but (perhaps) the script, locked -/
structure Quiet (P : Program) (w : World) (K : PySem.W.Frag) (a : Addr) (H : Hp) (s : Shared) : Prop where
  ok : HOk P w H s.heap
  one : ∀ b o, H b = some o → b = a ∧ K.lookup a = none ∧ ∃ ob xs, o = .frz ob (.lst xs) ∧ ∃ its n, ob.data = .seq its n
theorem law_goes {H : Hp} (KX : K.In s.heap) (hns : s.heap.Ns mainGlobals mg) (hb : s.heap.Ns builtinsNs mb) (hbb : ∀ x : Str, x ≠ "__name__" → mb x = bootBuiltins x) (hlim : s.heap.NoLimit) (hg : s.gens = #[])
    (q : Quiet P w K a H s) (hr : Room k callerA) (F : ∀ base : Heap, K.In base → base.Ns mainGlobals mg → FnG P w K mg base k fa fd [x] sp) (hbind : ∀ (s : Shared) (u : Value), BindsTo s fd ⟨[u], []⟩ [(x, u)])
    (hsp : sp [.ref a] H (fun v _ => v = .bl true) E0) : codeAny (model P w) callerA (.call (.ref fa) ⟨[.ref a], []⟩) (Behind s) s := by
  have free : ∀ {b : Addr} {o : Obj}, s.heap.get? b = some o → (∀ its n, o.data ≠ .seq its n) → H b = none := fun {b o} e d => by
    cases z : H b with
    | none => rfl
    | some u =>
      obtain ⟨rfl, _, ob, xs, rfl, its, n, hd⟩ := q.one b u z
      obtain ⟨e2, _⟩ := q.ok b _ z
      rw [e] at e2
      cases e2
      exact absurd hd (d its n)
  have nsb : ∀ {b : Addr} {m : Str → Option Value}, s.heap.Ns b m → (hidT s.heap H).Ns b m := fun {b m} ⟨o, es, ep, e, d, r⟩ =>
    ⟨o, es, ep, hidT_get e (free e fun its n z => by rw [d] at z; cases z), d, r⟩
  have Kb : K.In (hidT s.heap H) := fun b o e => hidT_get (KX b o e) (by
    cases z : H b with
    | none => rfl
    | some u =>
      obtain ⟨rfl, hk, _⟩ := q.one b u z
      rw [hk] at e
      cases e)
  have md : Mod K mg (hidT s.heap H) := ⟨Kb, nsb hns, ⟨mb, nsb hb, hbb⟩, let ⟨mc, h1, h2⟩ := hlim; ⟨mc, nsb h1, h2⟩⟩
  have none_in : ∀ b : Addr, ¬ b ∈ ([] : List Addr) := fun b z => nomatch z
  have e0 : Env0 P w K mg (hidT s.heap H) callerA [] s H := ⟨rfl, md, fun b o e => of_hidT e, Nat.le_of_eq (hidT_size _ _), trivial, fun b hb => absurd hb (none_in b), q.ok, .of_eq hg⟩
  refine codeAny_mono ((F _ Kb (nsb hns)).goes callerA [] s H ⟨[.ref a], []⟩ [.ref a] [.ref a] _ E0 rfl hr e0 (hbind s (.ref a)) (.cons rfl .nil) hsp) fun r s' h => ?_
  match r, h with
  | .error e, h => exact False.elim h
  | .ok .next, h => exact False.elim h
  | .ok .brk, h => exact False.elim h
  | .ok .cont, h => exact False.elim h
  | .ok (.ret u), h =>
    obtain ⟨v, H', os, bare, un, ok', rv, (rfl : v = .bl true)⟩ := h
    cases (show u = Value.bool true from rv)
    refine ⟨rfl, OldK.of_keep fun b o e => ?_, os, bare⟩
    cases z : H b with
    | none => exact un.keep b o e z (none_in b) (none_in b)
    | some u =>
      obtain ⟨_, _, ob, xs, rfl, _⟩ := q.one b u z
      obtain ⟨e1, _⟩ := q.ok b _ z
      obtain ⟨e2, _⟩ := ok' b _ (un.frzs b ob _ z)
      rw [e] at e1
      cases e1
      exact e2
theorem ints_vals : ∀ {vs : List Value} {ns : List Int}, IntsAre vs ns → Vals (ns.map V.int) vs
  | _, _, .nil => .nil
  | _, _, .cons n t h => .cons ⟨t, rfl⟩ (ints_vals h)
theorem law_goes_any (KX : K.In s.heap) (hns : s.heap.Ns mainGlobals mg) (hb : s.heap.Ns builtinsNs mb) (hbb : ∀ x : Str, x ≠ "__name__" → mb x = bootBuiltins x) (hlim : s.heap.NoLimit) (hg : s.gens = #[])
    (ha : s.heap.get? a = some { cls := .type "list", data := .seq vs.toArray }) (hi : IntsAre vs ns) (hl : ns.length ≤ sizeLine) (hr : Room k callerA)
    (F : ∀ base : Heap, K.In base → base.Ns mainGlobals mg → FnG P w K mg base k fa fd [x] sp) (hbind : ∀ (s : Shared) (u : Value), BindsTo s fd ⟨[u], []⟩ [(x, u)])
    (hsp : ∀ H : Hp, SqL K H a (ns.map V.int) → sp [.ref a] H (fun v _ => v = .bl true) E0) : codeAny (model P w) callerA (.call (.ref fa) ⟨[.ref a], []⟩) (Behind s) s := by
  have rv := ints_vals hi
  cases hk : K.lookup a with
  | some o =>
    have e := KX a o hk
    rw [ha] at e
    cases e
    have sq : SqL K (fun _ => none) a (ns.map V.int) := .inr ⟨_, vs.toArray, _, hk, rfl, rfl, rfl, by rw [List.size_toArray, hi.length]; exact hl, by simpa using rv⟩
    refine law_goes KX hns hb hbb hlim hg ⟨fun b u z => ?_, fun b u z => ?_⟩ hr F hbind (hsp _ sq)
    · exact absurd (show (none : Option HO) = some u from z) (by simp)
    · exact absurd (show (none : Option HO) = some u from z) (by simp)
  | none =>
    have get : ∀ b u, (fun b => if b = a then some (HO.frz { cls := .type "list", data := .seq vs.toArray } (.lst (ns.map V.int))) else none : Hp) b = some u → b = a ∧ u = .frz { cls := .type "list", data := .seq vs.toArray } (.lst (ns.map V.int)) := fun b u z => by
      have z : (if b = a then some (HO.frz { cls := .type "list", data := .seq vs.toArray } (.lst (ns.map V.int))) else none) = some u := z
      by_cases h : b = a
      · rw [if_pos h] at z
        exact ⟨h, (Option.some.inj z).symm⟩
      · rw [if_neg h] at z
        cases z
    refine law_goes (H := fun b => if b = a then some (.frz { cls := .type "list", data := .seq vs.toArray } (.lst (ns.map V.int))) else none) KX hns hb hbb hlim hg ⟨fun b u z => ?_, fun b u z => ?_⟩ hr F hbind (hsp _ (.inl (.inr ⟨_, if_pos rfl⟩)))
    · obtain ⟨rfl, rfl⟩ := get b u z
      exact ⟨ha, by rw [List.length_map]; exact hl, vs, _, rv, ha⟩
    · obtain ⟨rfl, rfl⟩ := get b u z
      exact ⟨rfl, hk, _, _, rfl, _, _, rfl⟩
end
/-- what k_head leaves open -/
theorem walk_G {l : PySem.W.OpenLaw} {n k : Nat} {q : Program} {loose : List Str} {XP : (Str → Option Value) → Heap → Prop} {YP : World → Heap → Prop} {d : DefRec} {K : Params → PySem.W.Frag} {sp : World → Sp} {x : Str}
    (hn : l.most = some n) (hn2 : n ≤ sizeLine) (hdf : d.params.defaults = []) (hr : Room k callerA) (hY : ∀ (w : World) (h : Heap), YP w h → (K w.params).In h)
    (F : ∀ (w : World) (mg : Str → Option Value) (fa : Addr) (h : Heap), (K w.params).In h → h.Ns mainGlobals mg → mg d.name = some (.ref fa) → ∃ fd : FuncData, (∀ (s : Shared) (u : Value), BindsTo s fd ⟨[u], []⟩ [(x, u)]) ∧
      ∀ base : Heap, (K w.params).In base → base.Ns mainGlobals mg → FnG l.prog w (K w.params) mg base k fa fd [x] (sp w))
    (hsp : ∀ (w : World) (H : Hp) (a : Addr) (ns : List Int), ns.length ≤ n → (∀ z ∈ ns, Builtin.Int.intBits z ≤ 1048576) → SqL (K w.params) H a (ns.map V.int) → sp w [.ref a] H (fun v _ => v = .bl true) E0) :
    PySem.W.WalkO q loose XP YP l.row.toRowW d [] (fun f vs => PySem.call f vs) := by
  refine Att.attach_callB hn hdf fun w s₀ s₁ mg mb fa o pm cd doc a vs ns G Y ho hd hcd hmg hobj hints hlen hbits hg => ?_
  have KX := hY w _ Y
  obtain ⟨fd, hb, hF⟩ := F w mg fa _ KX G.T.g hmg
  exact law_goes_any KX G.T.g G.T.b G.T.builtins G.T.nolimit hg hobj hints (Nat.le_trans hlen hn2) hr hF hb fun H hS => hsp w H a ns hlen hbits hS
end Ld
/-! Things that a law draws: data, with a small dict at most. -/
namespace Ld
open PySem L2 PyProof.Rows
/-- data without a dict, or a dict of at most one text -/
inductive Lf (K : PySem.W.Frag) (H : Hp) : V → PyData → Prop
  | dat {v : V} {d : PyData} : Dp K H v d → Lf K H v d
  | dct0 {a : Addr} : H a = some (.dK []) → Lf K H (.ref a) (.dict [])
  | dct1 {a : Addr} {x y : Str} : H a = some (.dK [(Sum.inr x, .str y)]) → Lf K H (.ref a) (.dict [(.str x, .str y)])
/-- such a one, or a tuple of words with such a one among them -/
inductive Th (K : PySem.W.Frag) (H : Hp) : V → PyData → Prop
  | lf {v : V} {d : PyData} : Lf K H v d → Th K H v d
  | tup {a : Addr} {ws us : List Str} {v : V} {d : PyData} : SqT K H a (ws.map V.str ++ v :: us.map V.str) → Lf K H v d → Th K H (.ref a) (.tuple (ws.map PyData.str ++ d :: us.map PyData.str))
section
variable {K : PySem.W.Frag} {H H' : Hp} {v : V} {d : PyData} {wa : Addr}
theorem Lf.same (s : Same H H') (h : Lf K H v d) : Lf K H' v d := by
  cases h with
  | dat h => exact .dat (dp_same s h)
  | dct0 h => exact .dct0 (s _ _ h)
  | dct1 h => exact .dct1 (s _ _ h)
theorem Th.same (s : Same H H') (h : Th K H v d) : Th K H' v d := by
  cases h with
  | lf h => exact .lf (h.same s)
  | tup a h => exact .tup (same_T s a) (h.same s)
theorem Lf.sb (W : Well H wa) (s : Sb wa H H') (h : Lf K H v d) : Lf K H' v d := by
  cases h with
  | dat h => exact .dat (dp_sb W s h)
  | dct0 h => exact .dct0 (s _ _ (W.ne h (by show (0 : Nat) ≠ 2; decide)) h)
  | dct1 h => exact .dct1 (s _ _ (W.ne h (by show (1 : Nat) ≠ 2; decide)) h)
theorem Th.sb (W : Well H wa) (s : Sb wa H H') (h : Th K H v d) : Th K H' v d := by
  cases h with
  | lf h => exact .lf (h.sb W s)
  | tup a h => exact .tup (seqT W s a) (h.sb W s)
end
/-! ### what repr needs of it -/
mutual
theorem dp_nodict {K : PySem.W.Frag} {H : Hp} : ∀ (d : PyData) (v : V), Dp K H v d → d.hasDict = false
  | .none, _, _ => rfl
  | .bool _, _, _ => rfl
  | .int _, _, _ => rfl
  | .str _, _, _ => rfl
  | .list ds, _, h => by
    cases h with
    | lst a b => simpa [PyData.hasDict] using dpAll_nodict ds _ b
  | .tuple ds, _, h => by
    cases h with
    | tup a b => simpa [PyData.hasDict] using dpAll_nodict ds _ b
  | .dict _, _, h => by cases h
theorem dpAll_nodict {K : PySem.W.Frag} {H : Hp} : ∀ (ds : List PyData) (vs : List V), DpAll K H vs ds → PyData.hasDictAll ds = false
  | [], _, _ => rfl
  | d :: ds, _, h => by
    cases h with
    | cons a b => simp [PyData.hasDictAll, dp_nodict d _ a, dpAll_nodict ds _ b]
end
section
variable {K : PySem.W.Frag} {P : Program} {w : World} {H : Hp} {h : Heap}
mutual
theorem dp_reads (ok : HOk P w H h) (kin : K.In h) : ∀ (d : PyData) (v : V) (u : Value), Dp K H v d → RelV v u → ∃ as, Reads h u d as
  | .none, _, _, z, r => by cases z; cases r; exact ⟨_, .none⟩
  | .bool b, _, _, z, r => by cases z; cases r; exact ⟨_, .bool b⟩
  | .int i, _, _, z, r => by cases z; obtain ⟨t, rfl⟩ := r; exact ⟨_, .int i t⟩
  | .str x, _, _, z, r => by cases z; obtain ⟨t, rfl⟩ := r; exact ⟨_, .str x t⟩
  | .list ds, _, _, z, r => by
    cases z with
    | lst hs ha =>
      cases r
      rcases hs with hs | ⟨o, its, n, hk, hc, hd, hs, hz, rv⟩
      · obtain ⟨z, its, n, rv, e⟩ := hs.ok ok
        obtain ⟨as, hr⟩ := dpAll_reads ok kin ds _ its ha rv
        exact ⟨_, .list e rfl rfl hr⟩
      · obtain ⟨as, hr⟩ := dpAll_reads ok kin ds _ its.toList ha rv
        exact ⟨_, .list (kin _ o hk) hc hs hr⟩
  | .tuple ds, _, _, z, r => by
    cases z with
    | tup hs ha =>
      cases r
      rcases hs with hs | ⟨o, its, n, hk, hc, hs, hz, rv⟩
      · obtain ⟨z, its, rv, o, e, c, n, dt⟩ := hs.ok ok
        obtain ⟨as, hr⟩ := dpAll_reads ok kin ds _ its ha rv
        exact ⟨_, .tuple e c dt hr⟩
      · obtain ⟨as, hr⟩ := dpAll_reads ok kin ds _ its.toList ha rv
        exact ⟨_, .tuple (kin _ o hk) hc hs hr⟩
  | .dict _, _, _, z, _ => by cases z
theorem dpAll_reads (ok : HOk P w H h) (kin : K.In h) : ∀ (ds : List PyData) (vs : List V) (us : List Value), DpAll K H vs ds → Vals vs us → ∃ as, ReadsAll h us ds as
  | [], _, _, z, r => by cases z; cases r; exact ⟨_, .nil⟩
  | d :: ds, _, _, z, r => by
    cases z with
    | cons h1 h2 =>
      cases r with
      | cons r1 r2 =>
        obtain ⟨as, q1⟩ := dp_reads ok kin d _ _ h1 r1
        obtain ⟨bs, q2⟩ := dpAll_reads ok kin ds _ _ h2 r2
        exact ⟨_, .cons q1 q2⟩
end
theorem reads_strs : ∀ (ws : List Str) (us : List Value), Vals (ws.map V.str) us → ReadsAll h us (ws.map PyData.str) []
  | [], _, r => by cases r; exact .nil
  | w :: ws, _, r => by
    cases r with
    | cons r1 r2 =>
      obtain ⟨t, rfl⟩ := r1
      exact .cons (as := []) (bs := []) (.str w t) (reads_strs ws _ r2)
theorem readsAll_append : ∀ {us vs : List Value} {ds es : List PyData} {as bs : List Addr}, ReadsAll h us ds as → ReadsAll h vs es bs → ReadsAll h (us ++ vs) (ds ++ es) (as ++ bs)
  | _, _, _, _, _, _, .nil, r => r
  | _, _, _, _, _, bs, .cons (as := as) (bs := cs) a b, r => by
    rw [List.append_assoc]
    exact .cons a (readsAll_append b r)
theorem Lf.rds {v : V} {d : PyData} (z : Lf K H v d) : Rds K P w H v d := fun h ok kin u r => by
  cases z with
  | dat z =>
    obtain ⟨as, q⟩ := dp_reads ok kin d v u z r
    exact ⟨as, q, fun e => by rw [dp_nodict d v z] at e; cases e⟩
  | @dct0 a z =>
    cases r
    obtain ⟨_, hm, vs, kv, o, es, ep, e1, e2, e3, _, e4, _⟩ := dk_of ok z
    cases kv
    have e5 : es.toList = [] := by
      cases hh : es.toList with
      | nil => rfl
      | cons x y => rw [hh] at e4; cases e4
    refine ⟨_, .dict (kvs := []) (as := []) (bs := []) e1 e2.1 e3 (by rw [e5]; exact .nil) (by rw [e5]; exact .nil), fun _ hin => ?_⟩
    rcases List.mem_cons.mp hin with q | q
    · rw [← q] at hm
      exact absurd hm (by decide)
    · cases q
  | @dct1 a x y z =>
    cases r
    obtain ⟨_, hm, vs, kv, o, es, ep, e1, e2, e3, _, e4, _⟩ := dk_of ok z
    cases kv with
    | @cons _ kv1 _ _ q kv2 =>
      cases kv2
      obtain ⟨q1, q2⟩ := q
      obtain ⟨k1, v1⟩ := kv1
      cases q1
      obtain ⟨t, (rfl : v1 = _)⟩ := q2
      cases hh : es.toList with
      | nil => rw [hh] at e4; cases e4
      | cons x1 x2 =>
        rw [hh] at e4
        cases e4 with
        | cons g1 g2 g3 =>
          cases g3
          have g4 : ∃ t', x1.key = .str x t' := by
            rcases keyIs_shape (show keyIs (.inr x) x1.key = true from g1) with ⟨i, t', z1, _⟩ | ⟨y', t', z1, z2⟩
            · cases z1
            · cases z1
              exact ⟨t', z2⟩
          obtain ⟨t', g4⟩ := g4
          refine ⟨_, .dict (kvs := [(.str x, .str y)]) (as := []) (bs := []) e1 e2.1 e3 ?_ ?_, fun _ hin => ?_⟩
          · rw [hh]
            show ReadsAll h [x1.key] [PyData.str x] []
            rw [g4]
            exact .cons (as := []) (bs := []) (.str x t') .nil
          · rw [hh]
            show ReadsAll h [x1.val] [PyData.str y] []
            rw [g2]
            exact .cons (as := []) (bs := []) (.str y t) .nil
          · rcases List.mem_cons.mp hin with q | q
            · rw [← q] at hm
              exact absurd hm (by decide)
            · cases q
theorem reads_cut (ws us : List Str) {v : V} {l : List Value} (r : Vals (ws.map V.str ++ v :: us.map V.str) l) : ∃ l1 u l2, l = l1 ++ u :: l2 ∧ Vals (ws.map V.str) l1 ∧ RelV v u ∧ Vals (us.map V.str) l2 := by
  induction ws generalizing l with
  | nil =>
    cases r with
    | cons r1 r2 => exact ⟨[], _, _, rfl, .nil, r1, r2⟩
  | cons w ws ih =>
    cases r with
    | cons r1 r2 =>
      obtain ⟨l1, u, l2, e, a, b, c⟩ := ih r2
      exact ⟨_ :: l1, u, l2, by rw [e]; rfl, .cons r1 a, b, c⟩
theorem hasDict_strs : ∀ ws : List Str, PyData.hasDictAll (ws.map PyData.str) = false
  | [] => rfl
  | w :: ws => by simp [PyData.hasDictAll, PyData.hasDict, hasDict_strs ws]
theorem hasDict_append : ∀ ds es : List PyData, PyData.hasDictAll (ds ++ es) = (PyData.hasDictAll ds || PyData.hasDictAll es)
  | [], es => by simp [PyData.hasDictAll]
  | d :: ds, es => by
    rw [List.cons_append]
    simp only [PyData.hasDictAll, hasDict_append ds es, Bool.or_assoc]
theorem Th.rds {v : V} {d : PyData} (z : Th K H v d) : Rds K P w H v d := fun h ok kin u r => by
  cases z with
  | lf z => exact z.rds h ok kin u r
  | @tup a ws us v d ha hv =>
    cases r
    have core : ∀ l, Vals (ws.map V.str ++ v :: us.map V.str) l → ∃ as, ReadsAll h l (ws.map PyData.str ++ d :: us.map PyData.str) as ∧ (d.hasDict = true → ¬ sysModules ∈ as) := fun l rl => by
      obtain ⟨l1, u, l2, rfl, r1, r2, r3⟩ := reads_cut ws us rl
      obtain ⟨as, q1, q2⟩ := hv.rds (P := P) (w := w) h ok kin u r2
      refine ⟨[] ++ (as ++ []), readsAll_append (reads_strs ws l1 r1) (.cons q1 (reads_strs us l2 r3)), ?_⟩
      simpa using q2
    have hd : (PyData.tuple (ws.map PyData.str ++ d :: us.map PyData.str)).hasDict = d.hasDict := by
      show PyData.hasDictAll (ws.map PyData.str ++ d :: us.map PyData.str) = _
      rw [hasDict_append, hasDict_strs]
      simp [PyData.hasDictAll, hasDict_strs]
    rcases ha with hs | ⟨o, its, n, hk, hc, hs, hz, rv⟩
    · obtain ⟨z, its, rv, o, e, c, n, dt⟩ := hs.ok ok
      obtain ⟨as, q1, q2⟩ := core its rv
      exact ⟨as, .tuple e c dt q1, by rw [hd]; exact q2⟩
    · obtain ⟨as, q1, q2⟩ := core its.toList rv
      exact ⟨as, .tuple (kin _ o hk) hc hs q1, by rw [hd]; exact q2⟩
end
/-! ### its kind -/
def kindOf : PyData → String
  | .none => "NoneType"
  | .bool _ => "bool"
  | .int _ => "int"
  | .str _ => "str"
  | .list _ => "list"
  | .tuple _ => "tuple"
  | .dict _ => "dict"
section
variable {K : PySem.W.Frag} {H : Hp} {v : V} {d : PyData}
theorem Dp.ty (z : Dp K H v d) : TyX K H v (.type (kindOf d)) := by
  cases z with
  | non => exact .base .non
  | bl b => exact .base (.bl b)
  | int i => exact .base (.int i)
  | str x => exact .base (.str x)
  | lst hs _ =>
    rcases hs with (hs | ⟨o, hs⟩) | ⟨o, its, n, hk, hc, _⟩
    · exact .base (.lst hs)
    · exact .base (.frz hs)
    · exact .kList hk hc
  | tup hs _ =>
    rcases hs with (hs | ⟨o, hs⟩) | ⟨o, its, n, hk, hc, _⟩
    · exact .base (.tup hs)
    · exact .fTuple hs
    · exact .kTuple hk hc
theorem Lf.ty (z : Lf K H v d) : TyX K H v (.type (kindOf d)) := by
  cases z with
  | dat z => exact Dp.ty z
  | dct0 z => exact .base (.dK z)
  | dct1 z => exact .base (.dK z)
theorem Th.ty (z : Th K H v d) : TyX K H v (.type (kindOf d)) := by
  cases z with
  | lf z => exact z.ty
  | tup hs _ =>
    rcases hs with (hs | ⟨o, hs⟩) | ⟨o, its, n, hk, hc, _⟩
    · exact .base (.tup hs)
    · exact .fTuple hs
    · exact .kTuple hk hc
def isStrD : PyData → Bool
  | .str _ => true
  | _ => false
def isTupD : PyData → Bool
  | .tuple _ => true
  | _ => false
def isIntD : PyData → Bool
  | .int _ => true
  | .bool _ => true
  | _ => false
def isBoolD : PyData → Bool
  | .bool _ => true
  | _ => false
theorem kit_str (d : PyData) : PySem.W.kitOne K (.type (kindOf d)) (.type "str") = some (isStrD d) := by
  cases d <;> (simp only [kindOf, isStrD, isTupD, isIntD, isBoolD]; exact kit_ty (by decide +kernel))
theorem kit_tuple (d : PyData) : PySem.W.kitOne K (.type (kindOf d)) (.type "tuple") = some (isTupD d) := by
  cases d <;> (simp only [kindOf, isStrD, isTupD, isIntD, isBoolD]; exact kit_ty (by decide +kernel))
theorem kit_int (d : PyData) : PySem.W.kitOne K (.type (kindOf d)) (.type "int") = some (isIntD d) := by
  cases d <;> (simp only [kindOf, isStrD, isTupD, isIntD, isBoolD]; exact kit_ty (by decide +kernel))
theorem kit_bool (d : PyData) : PySem.W.kitOne K (.type (kindOf d)) (.type "bool") = some (isBoolD d) := by
  cases d <;> (simp only [kindOf, isStrD, isTupD, isIntD, isBoolD]; exact kit_ty (by decide +kernel))
/-- the items of a tuple, each with its data -/
def Its (K : PySem.W.Frag) (H : Hp) (xs : List V) (ds : List PyData) : Prop := xs.length = ds.length ∧ ∀ (i : Nat) (x : V), xs[i]? = some x → ∃ d, ds[i]? = some d ∧ Lf K H x d
theorem its_of : ∀ {xs : List V} {ds : List PyData}, DpAll K H xs ds → Its K H xs ds
  | _, _, .nil => ⟨rfl, fun i x e => by simp at e⟩
  | _, _, .cons a b => by
    obtain ⟨h1, h2⟩ := its_of b
    refine ⟨by simp [h1], fun i x e => ?_⟩
    cases i with
    | zero =>
      simp at e
      subst e
      exact ⟨_, rfl, .dat a⟩
    | succ i =>
      obtain ⟨d, q1, q2⟩ := h2 i x (by simpa using e)
      exact ⟨d, by simpa using q1, q2⟩
theorem Th.its {ds : List PyData} (z : Th K H v (.tuple ds)) : ∃ a xs, v = .ref a ∧ SqT K H a xs ∧ Its K H xs ds := by
  cases z with
  | lf z =>
    cases z with
    | dat z =>
      cases z with
      | tup hs ha => exact ⟨_, _, rfl, hs, its_of ha⟩
  | @tup a ws us v d ha hv =>
    refine ⟨_, _, rfl, ha, by simp, fun i x e => ?_⟩
    by_cases h1 : i < ws.length
    · rw [List.getElem?_append_left (by simpa using h1), List.getElem?_map] at e
      cases g : ws[i]? with
      | none => rw [g] at e; cases e
      | some y =>
        rw [g] at e
        cases e
        exact ⟨.str y, by rw [List.getElem?_append_left (by simpa using h1), List.getElem?_map, g]; rfl, .dat (.str y)⟩
    · rw [List.getElem?_append_right (by simpa using h1), List.length_map] at e
      cases h2 : i - ws.length with
      | zero =>
        rw [h2] at e
        cases e
        exact ⟨d, by rw [List.getElem?_append_right (by simpa using h1), List.length_map, h2]; rfl, hv⟩
      | succ j =>
        rw [h2] at e
        have e : (us.map V.str)[j]? = some x := by simpa using e
        rw [List.getElem?_map] at e
        cases g : us[j]? with
        | none => rw [g] at e; cases e
        | some y =>
          rw [g] at e
          cases e
          refine ⟨.str y, ?_, .dat (.str y)⟩
          rw [List.getElem?_append_right (by simpa using h1), List.length_map, h2]
          show (us.map PyData.str)[j]? = some (PyData.str y)
          rw [List.getElem?_map, g]
          rfl
end
end Ld
/-! Words, letter by letter. -/
namespace Ld
open PySem L2 PyProof.Rows
def low (c : Nat) : Bool := decide (97 ≤ c) && decide (c ≤ 122)
def lows (z : Str) : Bool := z.cps.toList.all low
def wordS (z : Str) : Bool := decide (1 ≤ z.length) && decide (z.length ≤ 12) && lows z
theorem sign_facts : ∀ c : Fin 128, (Unicode.isAlpha c.val && !(Unicode.isUpper c.val || Unicode.isTitle c.val)) = low c.val ∧ (low c.val = true → Unicode.isLower c.val = true) := by decide +kernel
theorem sign_fact {c : Nat} (h : c < 128) : (Unicode.isAlpha c && !(Unicode.isUpper c || Unicode.isTitle c)) = low c ∧ (low c = true → Unicode.isLower c = true) := sign_facts ⟨c, h⟩
theorem low_lt {c : Nat} (h : low c = true) : c < 128 := by
  simp only [low, Bool.and_eq_true, decide_eq_true_eq] at h
  omega
theorem arr_all (z : Str) (p : Nat → Bool) : z.cps.all p = z.cps.toList.all p := by simp
theorem arr_any (z : Str) (p : Nat → Bool) : z.cps.any p = z.cps.toList.any p := by simp
theorem lows_eq {z : Str} (h : 1 ≤ z.length) : (Txt.isascii z && (Txt.isalpha z && Txt.islower z)) = lows z := by
  unfold Txt.isascii Txt.isalpha Txt.islower lows
  rw [arr_all, arr_all, arr_any, arr_any]
  have hl : (decide (z.length > 0)) = true := decide_eq_true h
  have hl2 : z.cps.toList.length = z.length := by simp [Str.length]
  rw [hl, Bool.true_and]
  generalize z.cps.toList = l at hl2
  rw [Bool.eq_iff_iff]
  simp only [Bool.and_eq_true, List.all_eq_true, List.any_eq_true, Bool.not_eq_true', decide_eq_true_eq]
  constructor
  · rintro ⟨h1, h2, _, h4⟩ c hc
    have f := (sign_fact (h1 c hc)).1
    rw [← f, Bool.and_eq_true]
    refine ⟨h2 c hc, ?_⟩
    have h5 := List.any_eq_false.mp h4 c hc
    simpa using h5
  · intro hh
    have f : ∀ c ∈ l, c < 128 ∧ Unicode.isAlpha c = true ∧ (Unicode.isUpper c || Unicode.isTitle c) = false ∧ Unicode.isLower c = true := fun c hc => by
      have h0 := hh c hc
      have h1 := low_lt h0
      obtain ⟨f1, f2⟩ := sign_fact h1
      rw [h0, Bool.and_eq_true] at f1
      exact ⟨h1, f1.1, by simpa using f1.2, f2 h0⟩
    refine ⟨fun c hc => (f c hc).1, fun c hc => (f c hc).2.1, ?_, List.any_eq_false.mpr fun c hc => by rw [(f c hc).2.2.1]; simp⟩
    cases l with
    | nil =>
      simp at hl2
      omega
    | cons c r => exact ⟨c, List.mem_cons_self, (f c List.mem_cons_self).2.2.2⟩
theorem one_lt (a b : Nat) : decide (([a] : List Nat) < [b]) = decide (a < b) := by
  by_cases h : a < b
  · rw [decide_eq_true h, decide_eq_true]
    exact List.Lex.rel h
  · rw [decide_eq_false h, decide_eq_false]
    intro z
    cases z with
    | rel q => exact h q
    | cons q => cases q
/-- what the data says -/
def numD (hi : Int) : PyData → Bool
  | .int i => decide (0 ≤ i) && decide (i ≤ hi)
  | _ => false
def wordD : PyData → Bool
  | .str z => wordS z
  | _ => false
def addrD : PyData → Bool
  | .tuple ds => ds.all wordD
  | _ => false
/-- a short text of plain signs -/
def Asc (z : Str) : Prop := z.length ≤ 100 ∧ ∀ c ∈ z.cps.toList, c < 128
def FitS (d : PyData) : Prop := ∀ z, d = .str z → Asc z
def Fits (d : PyData) : Prop := FitS d ∧ ∀ ds, d = .tuple ds → ds.length ≤ 10000 ∧ ∀ e ∈ ds, FitS e
theorem Asc.size {z : Str} (h : Asc z) : z.length ≤ sizeLine := Nat.le_trans h.1 (by decide)
theorem FitS.of {d : PyData} (h : ∀ z, d ≠ .str z) : FitS d := fun z e => absurd e (h z)
end Ld
/-! Short rules. -/
namespace Ld
open PySem L2 PyProof.Rows
section
variable {X : Cx}
theorem PE.conv {e : Expr} {t t' : TE} (h : PE X e t') (c : ∀ σ H Q, t σ H Q → t' σ H Q) : PE X e t := ⟨fun pins s σ H Q I z => h.run pins s σ H Q I (c σ H Q z)⟩
theorem PT.conv {e : Expr} {t t' : TT} (h : PT X e t') (c : ∀ σ H Q, t σ H Q → t' σ H Q) : PT X e t := ⟨fun pins s σ H Q I z => h.run pins s σ H Q I (c σ H Q z)⟩
theorem OpR.conv {f : Value → Value → Sem Value} {r r' : R2} (h : OpR X f r') (c : ∀ x y H Q, r x y H Q → r' x y H Q) : OpR X f r := fun pins s σ H x y v u Q I rx ry z => h pins s σ H x y v u Q I rx ry (c x y H Q z)
theorem CallR.conv {f : Value} {r r' : List V → Hp → VK → Prop} (h : CallR X f r') (c : ∀ xs H Q, r xs H Q → r' xs H Q) : CallR X f r := fun pins s σ H xs us Q I r z => h pins s σ H xs us Q I r (c xs H Q z)
/-- isinstance(a, T) -/
def rIsa (K : PySem.W.Frag) (T : String) (x : V) (H : Hp) (Q : VK) : Prop := ∃ t b, TyX K H x t ∧ PySem.W.kitOne K t (.type T) = some b ∧ Q (.bl b) H
theorem call_isa (T : String) : CallR X (.builtin "isinstance") (fun xs H Q => ∃ x, xs = [x, .ty T] ∧ rIsa X.K T x H Q) := CallR.conv call_isi fun xs H Q ⟨x, e, t, b, h1, h2, q⟩ => ⟨x, .ty T, t, .type T, b, e, .ty T, h1, h2, q⟩
/-- t[lo:hi], whatever object it is -/
def rSlW (K : PySem.W.Frag) : V → Option Int → Option Int → Hp → VK → Prop := fun x lo hi H Q => ∃ a xs, x = .ref a ∧ SqT K H a xs ∧ ∀ r H', Same H H' → SqT K H' r (cutV xs lo hi) → Q (.ref r) H'
theorem cut_whole {xs : List V} {lo hi : Option Int} (h : HT.sIx xs.length 0 lo = 0 ∧ HT.sIx xs.length xs.length hi = xs.length) : cutV xs lo hi = xs := by
  unfold cutV
  rw [h.1, h.2, List.drop_zero, Nat.sub_zero, List.take_length]
theorem sl_tupW : SlR X (rSlW X.K) := by
  intro pins s σ H x v vl vu lo hi sl Q I rx hs pl pu h
  obtain ⟨a, xs, rfl, hx, q⟩ := h
  exact sl_tupA pins s σ H _ v vl vu lo hi sl Q I rx hs pl pu ⟨a, xs, rfl, hx, fun hw => q a H (Same.refl H) (by rw [cut_whole hw]; exact hx), fun _ p hp => q p _ (Same.new hp) (.of upd_same)⟩
/-- t + u, whatever object it is -/
def rCatW (K : PySem.W.Frag) : R2 := fun x y H Q => ∃ a b xs ys, x = .ref a ∧ y = .ref b ∧ SqT K H a xs ∧ SqT K H b ys ∧ xs.length + ys.length ≤ sizeLine ∧ ∀ r H', Same H H' → SqT K H' r (xs ++ ys) → Q (.ref r) H'
theorem op_catW : OpR X (binaryOp .Add) (rCatW X.K) := OpR.conv op_catA fun x y H Q ⟨a, b, xs, ys, e1, e2, h1, h2, hz, q⟩ => by
  refine ⟨a, b, xs, ys, e1, e2, h1, h2, hz, fun e => ?_, fun _ e => ?_, fun _ _ p hp => q p _ (Same.new hp) (.of upd_same)⟩
  · subst e
    exact q b H (Same.refl H) h2
  · subst e
    exact q a H (Same.refl H) (by rw [List.append_nil]; exact h1)
/-- a tuple displayed, a list displayed: what is said of them -/
theorem bootN : bootBuiltins "isinstance" = some (.builtin "isinstance") := by decide +kernel
end
end Ld
namespace Ld
open PySem L2 PyProof.Rows
/-- f(..) of a def without default values that lets nothing out -/
structure Df (P : Program) (w : World) (K : PySem.W.Frag) (mg : Str → Option Value) (base : Heap) (k : Nat) (x : Str) (ps : List Str) (sp : Sp) : Prop where
  ex : ∃ f fd, mg x = some (.ref f) ∧ PySem.W.keepIn K (.ref f) = true ∧ Binds K fd ps [] ∧ FnOk P w K mg base CX0 k f fd ps sp
structure DfG (P : Program) (w : World) (K : PySem.W.Frag) (mg : Str → Option Value) (base : Heap) (k : Nat) (x : Str) (ps : List Str) (sp : Sp) : Prop where
  ex : ∃ f fd, mg x = some (.ref f) ∧ PySem.W.keepIn K (.ref f) = true ∧ Binds K fd ps [] ∧ FnG P w K mg base k f fd ps sp
def tDf (sp : Sp) (t : TA) : TE := fun σ H Q => t σ H fun vs H1 => sp vs H1 Q E0
section
variable {X : Cx} {k : Nat} {ps : List Str} {sp : Sp} {x : Str} {p pos : Pos} {e : Expr} {es : List Expr} {t : TA}
theorem pe_df {j : Nat} (D : Df X.prog X.w X.K X.mg X.base k x ps sp) (hr : Room j X.A) (ha : PA X (e :: es) t) (hj : k ≤ j := by decide) (hg : Gl X x := by rfl) (hdb : (x == ("__debug__" : Str)) = false := by decide) (he : starEach (e :: es) X.env = (false, eval e X.env) :: starEach es X.env := by rfl)
    (hpl : (backTo pos (starEach es X.env)).any (·.1) = false := by rfl) : PE X (.Call (.Name x p) (e :: es) [] pos) (tDf sp t) := by
  obtain ⟨f, fd, h1, h2, h3, h4⟩ := D.ex
  have z := pe_call (pos := pos) (p := p) h4 (hr.mono hj) hg h1 h2 h3 .nil pass0 ha hdb he hpl
  have e : tCall sp [] E0 t = tDf sp t := by
    funext σ H Q
    unfold tCall tDf
    simp only [List.append_nil]
  rw [e] at z
  exact z
theorem pe_dfG {j : Nat} (D : DfG X.prog X.w X.K X.mg X.base k x ps sp) (hG : X.A.guards = some []) (hr : Room j X.A) (ha : PA X (e :: es) t) (hj : k ≤ j := by decide) (hg : Gl X x := by rfl) (hdb : (x == ("__debug__" : Str)) = false := by decide)
    (he : starEach (e :: es) X.env = (false, eval e X.env) :: starEach es X.env := by rfl) (hpl : (backTo pos (starEach es X.env)).any (·.1) = false := by rfl) : PE X (.Call (.Name x p) (e :: es) [] pos) (tDf sp t) := by
  obtain ⟨f, fd, h1, h2, h3, h4⟩ := D.ex
  have z := pe_callG (pos := pos) (p := p) h4 hG (hr.mono hj) hg h1 h2 h3 ha hdb he hpl
  have e : tCall sp [] E0 t = tDf sp t := by
    funext σ H Q
    unfold tCall tDf
    simp only [List.append_nil]
  rw [e] at z
  exact z
end
section
variable {K : PySem.W.Frag} {H : Hp} {v : V}
theorem Th.int_v {i : Int} (h : Th K H v (.int i)) : v = .int i := by
  cases h with
  | lf h => cases h with
    | dat h => cases h; rfl
theorem Th.str_v {z : Str} (h : Th K H v (.str z)) : v = .str z := by
  cases h with
  | lf h => cases h with
    | dat h => cases h; rfl
end
end Ld
namespace Ld
open PySem L2 PyProof.Rows
/-! ### over the signs of a text -/
theorem lc_str {x : Str} {g : TG} {tt : TT} {te : TE} {vs : List Nat} {σ : L2.St} {H1 : Hp} {D : Addr} {Qd : Hp → Prop} (Pv : Nat → Hp → Prop) (h0 : Pv 0 (upd H1 D (.lst [])))
    (hs : ∀ i c H, x.cps[i]? = some c → Pv i H → g (.str ⟨#[c]⟩) (wipe σ vs) H fun σ2 H2 => wipe σ2 vs = wipe σ vs ∧ tt σ2 H2 fun b H3 =>
      if b = true then te σ2 H3 fun y H4 => ∃ acc, H4 D = some (.lst acc) ∧ acc.length < sizeLine ∧ Pv (i + 1) (upd H4 D (.lst (acc ++ [y]))) else Pv (i + 1) H3) (hd : ∀ H, Pv x.cps.size H → Qd H) :
    ∃ W : Nat → Nat → Hp → Prop, (∃ m, W 0 m (upd H1 D (.lst []))) ∧ ∀ i m H, W i m H →
      ((L2.Its x).stop i H ∧ Qd H) ∨ ((L2.Its x).go i H ∧ ∃ Nx : Hp → Prop, (∀ H', Nx H' → ∃ m', m' < m ∧ W (i + 1) m' H') ∧ ∀ v H', (L2.Its x).yld i H v H' → g v (wipe σ vs) H' fun σ2 H2 => wipe σ2 vs = wipe σ vs ∧ tt σ2 H2 fun b H3 =>
        if b = true then te σ2 H3 fun y H4 => ∃ acc, H4 D = some (.lst acc) ∧ acc.length < sizeLine ∧ Nx (upd H4 D (.lst (acc ++ [y]))) else Nx H3) := by
  refine ⟨fun i m H => m + i = x.cps.size ∧ Pv i H, ⟨x.cps.size, rfl, h0⟩, fun i m H ⟨e, p⟩ => ?_⟩
  by_cases hlt : i < x.cps.size
  · refine Or.inr ⟨hlt, Pv (i + 1), fun H' p' => ⟨m - 1, by omega, by omega, p'⟩, fun v H' y => ?_⟩
    obtain ⟨rfl, c, hc, rfl⟩ := y
    exact hs i c H' hc p
  · have e2 : i = x.cps.size := by omega
    subst e2
    exact Or.inl ⟨Nat.le_refl _, hd H p⟩
theorem for_str {x : Str} {g : TG} {tb : TS} {D : Ends} {σ : L2.St} {H : Hp} (Pv : Nat → L2.St → Hp → Prop) (h0 : Pv 0 σ H)
    (hs : ∀ i c σ H, x.cps[i]? = some c → Pv i σ H → g (.str ⟨#[c]⟩) σ H fun σ2 H2 => tb { D with nx := Pv (i + 1), ct := Pv (i + 1), bk := D.nx } σ2 H2) (hd : ∀ σ H, Pv x.cps.size σ H → D.nx σ H) :
    ∃ W : Nat → Nat → L2.St → Hp → Prop, (∃ m, W 0 m σ H) ∧ ∀ i m σ H, W i m σ H → ((L2.Its x).stop i H ∧ D.nx σ H) ∨ ((L2.Its x).go i H ∧ ∃ N : L2.St → Hp → Prop, (∀ σ' H', N σ' H' → ∃ m', m' < m ∧ W (i + 1) m' σ' H') ∧
      ∀ v H', (L2.Its x).yld i H v H' → g v σ H' fun σ2 H2 => tb { D with nx := N, ct := N, bk := D.nx } σ2 H2) := by
  refine ⟨fun i m σ H => m + i = x.cps.size ∧ Pv i σ H, ⟨x.cps.size, rfl, h0⟩, fun i m σ H ⟨e, p⟩ => ?_⟩
  by_cases hlt : i < x.cps.size
  · refine Or.inr ⟨hlt, Pv (i + 1), fun σ' H' p' => ⟨m - 1, by omega, by omega, p'⟩, fun v H' y => ?_⟩
    obtain ⟨rfl, c, hc, rfl⟩ := y
    exact hs i c σ H' hc p
  · have e2 : i = x.cps.size := by omega
    subst e2
    exact Or.inl ⟨Nat.le_refl _, hd σ H p⟩
/-! ### a list compared with the empty one -/
theorem eqv_nil_tuple (ds : List PyData) : PyData.eqv (.list ds) (.list []) = ds.isEmpty := by
  cases ds <;> rfl
end Ld
namespace Ld
open PySem L2 PyProof.Rows
/-- a list against an empty one, whatever is in it -/
def rEq0 : R2 := fun x y H Q => ∃ a b xs, x = .ref a ∧ y = .ref b ∧ H a = some (.lst xs) ∧ H b = some (.lst []) ∧ Q (.bl xs.isEmpty) H
theorem op_eq0 {X : Cx} (hu : X.A.units + 64 < cLine) : OpR X (compareOp .Eq) rEq0 := by
  intro pins s σ H x y v u Q I rx ry h
  obtain ⟨a, b, xs, rfl, rfl, ha, hb, q⟩ := h
  cases xs with
  | nil => exact op_eqD hu pins s σ H _ _ v u Q I rx ry ⟨.list [], .list [], .lst (.of ha) .nil, .lst (.of hb) .nil, by decide, by decide, q⟩
  | cons y ys =>
    cases rx
    cases ry
    obtain ⟨_, its, n, r, e1⟩ := (show ObjOk X.prog X.w H s.heap a (.lst (y :: ys)) from I.hok a _ ha)
    obtain ⟨_, its2, n2, r2, e2⟩ := (show ObjOk X.prog X.w H s.heap b (.lst []) from I.hok b _ hb)
    cases r2
    refine SeqAt.eq_list_lengthsAt (items := its.toArray) (items2 := ([] : List Value).toArray) ⟨_, e1, rfl, n, rfl⟩ ⟨_, e2, rfl, n2, rfl⟩ ?_ (by omega) ⟨.bl false, H, I, rfl, q⟩
    have := r.length
    simp at this
    simp
    cases its with
    | nil => simp at this
    | cons a b => simp
end Ld
/-! The well's two numbers, and numbers of a script squared. -/
namespace Ld
open PySem L2 PyProof.Rows
def kd : Key := Sum.inr (Str.ofString "digits")
def km : Key := Sum.inr (Str.ofString "mixed")
theorem keys_ne : ¬ (kd = km) := by decide +kernel
theorem keys_ne' : ¬ (km = kd) := fun e => keys_ne e.symm
theorem wellKv_eq (d m : Int) : wellKv d m = [(kd, V.int d), (km, V.int m)] := rfl
theorem well_dig (d m : Int) : valV (wellKv d m) kd = some (.int d) := by
  rw [wellKv_eq]
  exact valV_pos rfl
theorem well_mix (d m : Int) : valV (wellKv d m) km = some (.int m) := by
  rw [wellKv_eq]
  rw [valV_neg keys_ne]
  exact valV_pos rfl
theorem put_dig (d m x : Int) : putK (wellKv d m) kd (.int x) = wellKv x m := by
  unfold putK
  rw [valV_any, well_dig]
  show (if true = true then _ else _) = _
  rw [if_pos rfl]
  rw [wellKv_eq, wellKv_eq]
  show [if kd = kd then (kd, V.int x) else _, if km = kd then (km, V.int x) else (km, V.int m)] = _
  rw [if_pos rfl, if_neg keys_ne']
theorem put_mix (d m x : Int) : putK (wellKv d m) km (.int x) = wellKv d x := by
  unfold putK
  rw [valV_any, well_mix]
  show (if true = true then _ else _) = _
  rw [if_pos rfl]
  rw [wellKv_eq, wellKv_eq]
  show [if kd = km then (kd, V.int x) else (kd, V.int d), if km = km then (km, V.int x) else _] = _
  rw [if_neg keys_ne, if_pos rfl]
theorem merge_well (d m : Int) : mergeK [] [(kd, V.int d), (km, V.int m)] = wellKv d m := by
  show putK (putK [] kd (V.int d)) km (V.int m) = _
  rw [putK_new (kvs := []) _ rfl, List.nil_append, putK_new _ (by rw [valV_neg keys_ne]; rfl)]
  rfl
theorem sq_wide {m e : Int} {n : Nat} (h : e.natAbs < 2 ^ n) (hm : m.natAbs < 2 ^ 60) (hn : 60 ≤ n) : (m + e * e + 59).natAbs < 2 ^ (2 * n + 2) := by
  have h1 : (e * e).natAbs < 2 ^ (2 * n) := by
    rw [Int.natAbs_mul, Nat.two_mul, Nat.pow_add]
    exact Nat.mul_lt_mul'' h h
  have h2 : 2 ^ 60 ≤ 2 ^ (2 * n) := Nat.pow_le_pow_right (by decide) (by omega)
  have h3 : (2 : Nat) ^ (2 * n + 2) = 4 * 2 ^ (2 * n) := by
    rw [Nat.pow_add]
    omega
  rw [h3]
  generalize (2 : Nat) ^ (2 * n) = z at h1 h2
  generalize e * e = s at h1
  have h4 : (2 : Nat) ^ 60 = 1152921504606846976 := by decide
  omega
theorem mul_small {m c : Int} (h0 : 0 ≤ m) (h1 : m < 2 ^ 40) (c0 : 0 ≤ c) (c1 : c < 2 ^ 17) : (m * c).natAbs < 2 ^ 60 := by
  rw [Int.natAbs_mul]
  have a : m.natAbs < 2 ^ 40 := by omega
  have b : c.natAbs < 2 ^ 17 := by omega
  have := Nat.mul_lt_mul'' a b
  exact Nat.lt_of_lt_of_le this (by decide)
theorem bits_small {m : Int} (h0 : 0 ≤ m) (h1 : m < 2 ^ 40) : Builtin.Int.intBits m ≤ 40 := bits_of (by omega)
theorem list_get {ns : List Int} {i : Nat} {x : V} (h : (ns.map V.int)[i]? = some x) : ∃ z, ns[i]? = some z ∧ x = .int z := by
  rw [List.getElem?_map] at h
  cases e : ns[i]? with
  | none => rw [e] at h; cases h
  | some z =>
    rw [e] at h
    exact ⟨z, rfl, (Option.some.inj h).symm⟩
end Ld
/-! Small things: what is drawn is short. -/
namespace Ld
open PySem L2 PyProof.Rows
def ascB (z : Str) : Bool := decide (z.length ≤ 100) && z.cps.toList.all (fun c => decide (c < 128))
theorem asc_of {z : Str} (h : ascB z = true) : Asc z := by
  simp only [ascB, Bool.and_eq_true, decide_eq_true_eq, List.all_eq_true] at h
  exact h
/-- short enough to stand in something -/
structure Part (d : PyData) : Prop where
  fit : FitS d
  sh : d.showable = true
  dp : d.depth ≤ 20
  len : d.shown.length ≤ 2000
def partB (d : PyData) : Bool := (match d with | .str z => ascB z | _ => true) && d.showable && decide (d.depth ≤ 20) && decide (d.shown.length ≤ 2000)
theorem part_of {d : PyData} (h : partB d = true) : Part d := by
  simp only [partB, Bool.and_eq_true, decide_eq_true_eq] at h
  obtain ⟨⟨⟨h1, h2⟩, h3⟩, h4⟩ := h
  refine ⟨fun z e => ?_, h2, h3, h4⟩
  subst e
  exact asc_of h1
theorem part_str {z : Str} (h : Asc z) : Part (.str z) := by
  refine ⟨fun y e => by cases e; exact h, rfl, by show 0 ≤ 20; decide, ?_⟩
  have := PySem.StrLaws.reprText_len z fun c hc => Nat.lt_of_lt_of_le (h.2 c hc) (by decide)
  show (reprText z).length ≤ 2000
  have := h.1
  omega
theorem Part.small {d : PyData} (h : Part d) : Small d := ⟨h.sh, Nat.le_trans h.dp (by decide), Nat.le_trans h.len (by decide)⟩
theorem shows_all : ∀ {ds : List PyData}, (∀ d ∈ ds, Part d) → PyData.showableAll ds = true
  | [], _ => rfl
  | d :: ds, h => by
    simp only [PyData.showableAll, (h d List.mem_cons_self).sh, shows_all fun x hx => h x (List.mem_cons_of_mem _ hx), Bool.and_self]
theorem depth_all : ∀ {ds : List PyData}, (∀ d ∈ ds, Part d) → PyData.depthAll ds ≤ 20
  | [], _ => by show 0 ≤ 20; decide
  | d :: ds, h => by
    have h1 := (h d List.mem_cons_self).dp
    have h2 := depth_all fun x hx => h x (List.mem_cons_of_mem _ hx)
    simp only [PyData.depthAll]
    omega
theorem len_all : ∀ {ds : List PyData}, (∀ d ∈ ds, Part d) → ((PyData.shownAll ds).map (·.length)).sum ≤ 2000 * ds.length ∧ (PyData.shownAll ds).length = ds.length
  | [], _ => ⟨Nat.le_refl _, rfl⟩
  | d :: ds, h => by
    have h1 := (h d List.mem_cons_self).len
    obtain ⟨h2, h3⟩ := len_all fun x hx => h x (List.mem_cons_of_mem _ hx)
    simp only [PyData.shownAll, List.map_cons, List.sum_cons, List.length_cons]
    omega
theorem small_list {ds : List PyData} (h : ∀ d ∈ ds, Part d) (hn : ds.length ≤ 1000) : Small (.list ds) := by
  obtain ⟨h2, h3⟩ := len_all h
  refine ⟨by simpa only [PyData.showable] using shows_all h, ?_, ?_⟩
  · have := depth_all h
    simp only [PyData.depth]
    omega
  · have := listText_len_le (PyData.shownAll ds)
    simp only [PyData.shown]
    rw [sizeLine_eq]
    omega
theorem small_tuple {ds : List PyData} (h : ∀ d ∈ ds, Part d) (hn : ds.length ≤ 1000) : Small (.tuple ds) := by
  obtain ⟨h2, h3⟩ := len_all h
  refine ⟨by simpa only [PyData.showable] using shows_all h, ?_, ?_⟩
  · have := depth_all h
    simp only [PyData.depth]
    omega
  · have := tupleText_len_le (PyData.shownAll ds)
    simp only [PyData.shown]
    rw [sizeLine_eq]
    omega
theorem fits_list {ds : List PyData} : Fits (.list ds) := ⟨(fun z e => by cases e), (fun ds e => by cases e)⟩
theorem fits_tuple {ds : List PyData} (h : ∀ d ∈ ds, Part d) (hn : ds.length ≤ 1000) : Fits (.tuple ds) := ⟨(fun z e => by cases e), (fun es e => by cases e; exact ⟨Nat.le_trans hn (by decide), fun d hd => (h d hd).fit⟩)⟩
theorem Part.fits {d : PyData} (h : Part d) (n : ∀ ds, d ≠ .tuple ds) : Fits d := ⟨h.fit, fun ds e => absurd e (n ds)⟩
theorem parts_strs {ws : List Str} (h : ∀ w ∈ ws, Asc w) : ∀ d ∈ ws.map PyData.str, Part d := fun d hd => by
  obtain ⟨w, hw, rfl⟩ := List.mem_map.mp hd
  exact part_str (h w hw)
/-- a drawn thing: it stands, it is short -/
def Good (K : PySem.W.Frag) (H : Hp) (v : V) : Prop := ∃ d, Th K H v d ∧ Fits d ∧ Small d
theorem Good.sb {K : PySem.W.Frag} {H H' : Hp} {wa : Addr} {v : V} (W : Well H wa) (s : Sb wa H H') (h : Good K H v) : Good K H' v := by
  obtain ⟨d, h1, h2⟩ := h
  exact ⟨d, h1.sb W s, h2⟩
theorem Good.same {K : PySem.W.Frag} {H H' : Hp} {v : V} (s : Same H H') (h : Good K H v) : Good K H' v := by
  obtain ⟨d, h1, h2⟩ := h
  exact ⟨d, h1.same s, h2⟩
/-- any of the menu -/
def Any (K : PySem.W.Frag) (H : Hp) (v : V) : Prop := ∃ d, Lf K H v d ∧ Part d ∧ Fits d
theorem Any.sb {K : PySem.W.Frag} {H H' : Hp} {wa : Addr} {v : V} (W : Well H wa) (s : Sb wa H H') (h : Any K H v) : Any K H' v := by
  obtain ⟨d, h1, h2⟩ := h
  exact ⟨d, h1.sb W s, h2⟩
theorem Any.same {K : PySem.W.Frag} {H H' : Hp} {v : V} (s : Same H H') (h : Any K H v) : Any K H' v := by
  obtain ⟨d, h1, h2⟩ := h
  exact ⟨d, h1.same s, h2⟩
theorem Any.good {K : PySem.W.Frag} {H : Hp} {v : V} (h : Any K H v) : Good K H v := by
  obtain ⟨d, h1, h2, h3⟩ := h
  exact ⟨d, .lf h1, h3, h2.small⟩
theorem any_int {K : PySem.W.Frag} {H : Hp} (i : Int) (h : partB (.int i) = true) : Any K H (.int i) := ⟨_, .dat (.int i), part_of h, (part_of h).fits (fun _ e => by cases e)⟩
theorem any_str {K : PySem.W.Frag} {H : Hp} (z : Str) (h : ascB z = true) : Any K H (.str z) := ⟨_, .dat (.str z), part_str (asc_of h), (part_str (asc_of h)).fits (fun _ e => by cases e)⟩
theorem any_non {K : PySem.W.Frag} {H : Hp} : Any K H .non := ⟨_, .dat .non, part_of (by decide +kernel), (part_of (by decide +kernel)).fits (fun _ e => by cases e)⟩
theorem any_bl {K : PySem.W.Frag} {H : Hp} (b : Bool) : Any K H (.bl b) := ⟨_, .dat (.bl b), part_of (by cases b <;> decide +kernel), (part_of (d := .bool b) (by cases b <;> decide +kernel)).fits (fun _ e => by cases e)⟩
theorem any_tup {K : PySem.W.Frag} {H : Hp} {a : Addr} {xs : List V} {ds : List PyData} (h : SqT K H a xs) (hd : DpAll K H xs ds) (p : partB (.tuple ds) = true) (q : ds.all partB = true) (hn : ds.length ≤ 1000) : Any K H (.ref a) :=
  ⟨_, .dat (.tup h hd), part_of p, fits_tuple (fun d h => part_of (List.all_eq_true.mp q d h)) hn⟩
theorem any_lst {K : PySem.W.Frag} {H : Hp} {a : Addr} {xs : List V} {ds : List PyData} (h : SqL K H a xs) (hd : DpAll K H xs ds) (p : partB (.list ds) = true) : Any K H (.ref a) := ⟨_, .dat (.lst h hd), part_of p, fits_list⟩
theorem any_dct0 {K : PySem.W.Frag} {H : Hp} {a : Addr} (h : H a = some (.dK [])) : Any K H (.ref a) := ⟨_, .dct0 h, part_of (by decide +kernel), (part_of (d := .dict []) (by decide +kernel)).fits (fun _ e => by cases e)⟩
theorem any_dct1 {K : PySem.W.Frag} {H : Hp} {a : Addr} {x y : Str} (h : H a = some (.dK [(Sum.inr x, .str y)])) (p : partB (.dict [(.str x, .str y)]) = true) : Any K H (.ref a) := ⟨_, .dct1 h, part_of p, (part_of p).fits (fun _ e => by cases e)⟩
end Ld
/-! A tuple many times; texts joined. -/
namespace Ld
open PySem L2 PyProof.Rows
/-- t * k, up to a hundred thousand items -/
def rRepL (K : PySem.W.Frag) : R2 := fun x y H Q => ∃ l k xs, x = .ref l ∧ y = .int (k : Nat) ∧ SqT K H l xs ∧ xs ≠ [] ∧ 2 ≤ k ∧ xs.length * k ≤ 100000 ∧ ∀ p, H p = none → Q (.ref p) (upd H p (.tup (List.replicate k xs).flatten))
theorem op_repL {X : Cx} : OpR X (binaryOp .Mult) (rRepL X.K) := by
  intro pins s σ H x y v u Q I rx ry h
  obtain ⟨l, k, xs, rfl, rfl, hT, hne, h2, hk, q⟩ := h
  cases rx
  obtain ⟨t, rfl⟩ := ry
  obtain ⟨its, r, ⟨⟨c, dd, dt, sl⟩, ho, (rfl : c = _), n, (rfl : dt = _)⟩, _⟩ := I.tuple hT
  have hlen : its.length = xs.length := r.length.symm
  have hpos : 0 < xs.length := List.length_pos_iff.mpr hne
  have hbig : k ≤ 100000 := Nat.le_trans (Nat.le_mul_of_pos_left k hpos) hk
  have emp : its.toArray.isEmpty = false := by
    cases its with
    | nil =>
      simp at hlen
      omega
    | cons _ _ => rfl
  have siz : its.toArray.size = xs.length := by rw [List.size_toArray, hlen]
  have prod : ((its.toArray.size : Nat) : Int) * (k : Int) = ((xs.length * k : Nat) : Int) := by
    rw [siz]
    exact (Int.natCast_mul _ _).symm
  have flat : (List.replicate k its).flatten.length = xs.length * k := by
    rw [PyProof.Rows.lm_len_rep_flat, hlen, Nat.mul_comm]
  have tk : ((k : Int)).toNat = k := Int.toNat_natCast k
  have one : (its.toArray.isEmpty || (k : Int) == 1) = false := by
    rw [emp]
    exact beq_eq_false_iff_ne.mpr (by omega)
  have zero : (decide ((k : Int) ≤ 0) || its.toArray.isEmpty) = false := by
    rw [emp, decide_eq_false (by omega)]
    rfl
  have wide : (decide ((k : Int) < -(2 ^ 63)) || decide ((k : Int) ≥ 2 ^ 63)) = false := by
    rw [decide_eq_false (show ¬ ((k : Int) < -(2 ^ 63)) by omega), decide_eq_false (show ¬ ((k : Int) ≥ 2 ^ 63) by omega)]
    rfl
  have many : Builtin.Tuple.tupleTooMany (((its.toArray.size : Nat) : Int) * (k : Int)) = false := by
    rw [prod]
    unfold Builtin.Tuple.tupleTooMany
    rw [sizeLine_eq]
    exact decide_eq_false (by omega)
  have room : (List.foldl (fun x1 x2 => x1 ++ x2) #[] (List.replicate (k : Int).toNat its.toArray)).size ≤ sizeLine := by
    rw [size_rep, List.size_toArray, tk, flat, sizeLine_eq]
    omega
  have far : ¬ ((its.toArray.size : Nat) : Int) * (k : Int) > (2 ^ 63 - 1) / 8 := by
    rw [prod]
    omega
  have ty : s.TypeIs (.ref l) "tuple" := ⟨_, ho, rfl⟩
  have done : EP X pins σ Q (Value.ref s.heap.objs.size) { s with heap := s.heap.push { cls := Value.type "tuple", data := Data.seq (List.foldl (fun x1 x2 => x1 ++ x2) #[] (List.replicate (k : Int).toNat its.toArray)) }, toks := s.toks } := by
    rw [size_rep, tk]
    refine ⟨.ref s.heap.objs.size, _, I.laid (t' := s.toks) (o := .tup (List.replicate k xs).flatten) (fun b ob e => Heap.get?_push_of_some _ e) (Nat.le_refl _) ⟨?_, _, r.rep k, IsTup.new _ _⟩, rfl, q _ (I.hok.fresh (Nat.le_refl _))⟩
    rw [PyProof.Rows.lm_len_rep_flat, Nat.mul_comm, sizeLine_eq]
    omega
  have mul := call_meets F.slot_tuple_mul ty F.entry_tuple_mul (F.args_tuple_mul_2 _ _) (tuple_mulW l its.toArray n dd sl (k : Int) t wide one zero far many room) (prog := X.prog) (w := X.w) (A := X.A) (E := X.xe) ⟨ho, done⟩
  exact wpAny_binaryOp_repeat_ref (T := "tuple") (U := "int") (by decide) ty (fun s' => typeIs_int s' _ t) noFill_tuple_mul F.fills_int_mul F.slot_int_rmul repeat_tuple F.slot_int_index.lookup
    (call_meets F.slot_int_rmul (typeIs_int s _ t) F.entry_int_rmul (F.args_int_rmul_2 _ _) (int_rmul_tuple _ t l its.toArray n dd sl) ⟨ho, rfl, ty, mul⟩)
theorem rep_one (x : V) : ∀ n : Nat, (List.replicate n [x]).flatten = List.replicate n x
  | 0 => rfl
  | n + 1 => by rw [List.replicate_succ, List.replicate_succ, List.flatten_cons, rep_one x n]; rfl
theorem join_asc : ∀ ws : List Str, (∀ z ∈ ws, ∀ c ∈ z.cps.toList, c < 128) → (Str.join (Str.ofString "") ws).length = (ws.map (·.length)).sum ∧ ∀ c ∈ (Str.join (Str.ofString "") ws).cps.toList, c < 128
  | [], _ => ⟨rfl, fun c hc => by cases hc⟩
  | [x], h => ⟨by show x.length = x.length + 0; omega, h x List.mem_cons_self⟩
  | x :: y :: r, h => by
    obtain ⟨h1, h2⟩ := join_asc (y :: r) fun z hz => h z (List.mem_cons_of_mem _ hz)
    have e : Str.join (Str.ofString "") (x :: y :: r) = x ++ Str.ofString "" ++ Str.join (Str.ofString "") (y :: r) := rfl
    rw [e]
    refine ⟨?_, fun c hc => ?_⟩
    · rw [strLen_append, strLen_append, h1]
      have e0 : (Str.ofString "").length = 0 := by decide +kernel
      rw [e0, List.map_cons (l := y :: r), List.sum_cons]
      omega
    · have hc : c ∈ ((x.cps ++ (Str.ofString "").cps) ++ (Str.join (Str.ofString "") (y :: r)).cps).toList := hc
      rw [Array.toList_append, Array.toList_append] at hc
      rcases List.mem_append.mp hc with g | g
      · rcases List.mem_append.mp g with g | g
        · exact h x List.mem_cons_self c g
        · have e0 : (Str.ofString "").cps.toList = [] := by decide +kernel
          rw [e0] at g
          cases g
      · exact h2 c g
theorem join_is (ws : List Str) : Txt.join (Str.ofString "") ws = Str.join (Str.ofString "") ws := PySem.StrLaws.glued_eq_join _ ws
theorem sum_le {ws : List Str} {b : Nat} (h : ∀ z ∈ ws, z.length ≤ b) : (ws.map (·.length)).sum ≤ b * ws.length := by
  induction ws with
  | nil => exact Nat.zero_le _
  | cons x r ih =>
    have h1 := h x List.mem_cons_self
    have h2 := ih fun z hz => h z (List.mem_cons_of_mem _ hz)
    rw [List.map_cons, List.sum_cons, List.length_cons, Nat.mul_add]
    omega
theorem good_int {K : PySem.W.Frag} {H : Hp} (i : Int) (h : i.natAbs < 2 ^ 64) : Good K H (.int i) := by
  have l : i.natAbs.log2 < 1920 := by
    by_cases z : i.natAbs = 0
    · rw [z]
      decide
    · exact Nat.lt_trans ((Nat.log2_lt z).mpr h) (by decide)
  refine ⟨.int i, .lf (.dat (.int i)), ⟨(fun z e => by cases e), (fun ds e => by cases e)⟩, ?_, by show 0 ≤ 40; decide, ?_⟩
  · simp only [PyData.showable]
    exact decide_eq_true l
  · simp only [PyData.shown]
    exact int_text_fits l
end Ld
namespace K1
open PySem L2 Ld
def top (i : Nat) : Stmt := PySem.Challenge.pw_leadsever_k01_words_addresses_days.main.body.getD i (.Pass ⟨0, 0, 0, 0⟩)
abbrev sNum : Stmt := top 3
abbrev sDay : Stmt := top 4
abbrev sWord : Stmt := top 5
abbrev sAddr : Stmt := top 6
/-- what is left of the top -/
structure Tx (mg : Str → Option Value) : Prop where
  isi : mg "isinstance" = none
  int : mg "int" = none
  bool : mg "bool" = none
  str : mg "str" = none
  tuple : mg "tuple" = none
  list : mg "list" = none
  len : mg "len" = none
  range : mg "range" = none
  repr : mg "repr" = none
  max : mg "max" = none
  min : mg "min" = none
  wl : ∃ t, mg "WORD_LETTERS" = some (.int 12 t)
  ld : ∃ t, mg "LAST_DAY" = some (.int 1000000 t)
section
variable {P : Program} {w : World} {K : PySem.W.Frag} {mg : Str → Option Value} {base : Heap} {f : Addr} {fd : FuncData}
def spNum (K : PySem.W.Frag) : Sp := fun vs H Q _ => ∃ (v : V) (d : PyData) (hi : Int), vs = [v, .int hi] ∧ Th K H v d ∧ Q (.bl (numD hi d)) H
theorem scN : FnScope ["value", "highest"] ["value", "highest"] (defScope sNum) := ⟨rfl, rfl, rfl, by decide +kernel, rfl, by decide +kernel, by decide +kernel⟩
theorem ok_num (F : Fun K "is_number_to" "is_number_to" sNum f fd) (T : Tx mg) : FnOk P w K mg base CX0 1 f fd ["value", "highest"] (spNum K) := by
  refine F.ok scN (fun vs H Q E h => ?_) (fun cdv A outer s H vs Q E hr h => ?_)
  · obtain ⟨v, d, hi, rfl, _⟩ := h
    rfl
  · obtain ⟨v, d, hi, rfl, hT, q⟩ := h
    refine ⟨_, pss_one (ps_ret (pe_and (pe_callB (call_isa "int") (by rfl) T.isi bootN (pa_cons (pv 0) (pa_cons (pe_bltn (v := .ty "int") (by rfl) T.int (by decide +kernel) rfl) pa_nil)))
      (pe_and (pe_not (pe_callB (call_isa "bool") (by rfl) T.isi bootN (pa_cons (pv 0) (pa_cons (pe_bltn (v := .ty "bool") (by rfl) T.bool (by decide +kernel) rfl) pa_nil)))) (pe_one (pe_chain op_le op_le pe_int (pv 0) (pv 1)))))), ?_⟩
    refine ⟨_, rfl, _, rfl, _, _, hT.ty, kit_int d, _, rfl, ?_⟩
    by_cases hi1 : isIntD d = true
    · rw [hi1]
      refine iteT ⟨_, rfl, _, rfl, _, _, hT.ty, kit_bool d, _, rfl, _, rfl, ?_⟩
      cases d with
      | int i =>
        have e := hT.int_v
        subst e
        refine iteT ⟨_, rfl, _, _, rfl, rfl, _, rfl, ?_⟩
        by_cases h0 : 0 ≤ i
        · rw [decide_eq_true h0]
          refine iteT ⟨_, rfl, _, _, rfl, rfl, ?_⟩
          have e : numD hi (.int i) = decide (i ≤ hi) := by simp [numD, h0]
          rw [e] at q
          exact q
        · rw [decide_eq_false h0]
          have e : numD hi (.int i) = false := by simp [numD, h0]
          rw [e] at q
          exact iteF q
      | bool b => exact iteF q
      | none => cases hi1
      | str z => cases hi1
      | list ds => cases hi1
      | tuple ds => cases hi1
      | dict ds => cases hi1
    · have hi2 : isIntD d = false := by simpa using hi1
      rw [hi2]
      have e : numD hi d = false := by
        cases d <;> first | rfl | (simp [isIntD] at hi2)
      rw [e] at q
      exact iteF q
def spDay (K : PySem.W.Frag) : Sp := fun vs H Q _ => ∃ (v : V) (d : PyData), vs = [v] ∧ Th K H v d ∧ Q (.bl (numD 1000000 d)) H
theorem scD : FnScope ["value"] ["value"] (defScope sDay) := ⟨rfl, rfl, rfl, by decide +kernel, rfl, by decide +kernel, by decide +kernel⟩
theorem ok_day (F : Fun K "is_day" "is_day" sDay f fd) (T : Tx mg) (D : Df P w K mg base 1 "is_number_to" ["value", "highest"] (spNum K)) : FnOk P w K mg base CX0 2 f fd ["value"] (spDay K) := by
  refine F.ok scD (fun vs H Q E h => ?_) (fun cdv A outer s H vs Q E hr h => ?_)
  · obtain ⟨v, d, rfl, _⟩ := h
    rfl
  · obtain ⟨v, d, rfl, hT, q⟩ := h
    obtain ⟨t, hl⟩ := T.ld
    refine ⟨_, pss_one (ps_ret (pe_df D hr (pa_cons (pv 0) (pa_cons (pe_glob (v := .int 1000000) (by rfl) hl ⟨_, rfl⟩) pa_nil)))), ?_⟩
    exact ⟨_, rfl, v, d, 1000000, rfl, hT, q⟩
def spWord (K : PySem.W.Frag) : Sp := fun vs H Q _ => ∃ (v : V) (d : PyData), vs = [v] ∧ Th K H v d ∧ FitS d ∧ Q (.bl (wordD d)) H
theorem scW : FnScope ["value"] ["value"] (defScope sWord) := ⟨rfl, rfl, rfl, by decide +kernel, rfl, by decide +kernel, by decide +kernel⟩
theorem ok_word (F : Fun K "is_word" "is_word" sWord f fd) (T : Tx mg) : FnOk P w K mg base CX0 1 f fd ["value"] (spWord K) := by
  refine F.ok scW (fun vs H Q E h => ?_) (fun cdv A outer s H vs Q E hr h => ?_)
  · obtain ⟨v, d, rfl, _⟩ := h
    rfl
  · obtain ⟨v, d, rfl, hT, hf, q⟩ := h
    obtain ⟨t, hl⟩ := T.wl
    refine ⟨_, pss_cons (ps_if (PW.pt (pw_or (pt_not (pt_val (pe_callB (call_isa "str") (by rfl) T.isi bootN (pa_cons (pv 0) (pa_cons (pe_bltn (v := .ty "str") (by rfl) T.str (by decide +kernel) rfl) pa_nil)))))
        (pw_or1 (pt_not (pt_chain op_le op_le pe_int (pe_callB call_len_str (by rfl) T.len PySem.boot_len (pa_cons (pv 0) pa_nil)) (pe_glob (v := .int 12) (by rfl) hl ⟨_, rfl⟩))))))
        (pss_one (ps_ret pe_bl)) pss_nil)
      (pss_one (ps_ret (pe_and (pe_m0 PySem.F.slot_str_isascii PySem.F.type_str_isascii mt_isascii (pv 0)) (pe_and (pe_m0 PySem.F.slot_str_isalpha PySem.F.type_str_isalpha mt_isalpha (pv 0)) (pe_one (pe_m0 PySem.F.slot_str_islower PySem.F.type_str_islower mt_islower (pv 0))))))), ?_⟩
    refine ⟨_, rfl, _, rfl, _, _, hT.ty, kit_str d, _, rfl, ?_⟩
    cases d with
    | str z =>
      have e := hT.str_v
      subst e
      have hf : z.length ≤ sizeLine := (hf z rfl).size
      refine iteF ⟨_, rfl, _, rfl, hf, _, _, rfl, rfl, _, rfl, ?_⟩
      have bad : (decide (1 ≤ z.length) && decide (z.length ≤ 12)) = false → wordD (.str z) = false := fun e => by
        show wordS z = false
        unfold wordS
        rw [e, Bool.false_and]
      by_cases h1 : (1 : Int) ≤ (z.length : Int)
      · rw [decide_eq_true h1]
        refine iteT ⟨_, _, rfl, rfl, _, rfl, ?_⟩
        by_cases h2 : (z.length : Int) ≤ 12
        · rw [decide_eq_true h2]
          refine iteF ⟨_, rfl, ⟨_, rfl⟩, _, rfl, rfl, trivial, _, rfl, ?_⟩
          have e : wordD (.str z) = (Txt.isascii z && (Txt.isalpha z && Txt.islower z)) := by
            rw [lows_eq (by omega)]
            show wordS z = _
            unfold wordS
            rw [decide_eq_true (show 1 ≤ z.length by omega), decide_eq_true (show z.length ≤ 12 by omega)]
            rfl
          rw [e] at q
          cases ea : Txt.isascii z with
          | false =>
            rw [ea] at q
            exact iteF q
          | true =>
            rw [ea] at q
            refine iteT ⟨_, rfl, ⟨_, rfl⟩, _, rfl, rfl, trivial, _, rfl, ?_⟩
            cases eb : Txt.isalpha z with
            | false =>
              rw [eb] at q
              exact iteF q
            | true =>
              rw [eb] at q
              exact iteT ⟨_, rfl, ⟨_, rfl⟩, _, rfl, rfl, trivial, q⟩
        · rw [decide_eq_false h2]
          rw [bad (by rw [decide_eq_false (show ¬ z.length ≤ 12 by omega), Bool.and_false])] at q
          exact iteT q
      · rw [decide_eq_false h1]
        rw [bad (by rw [decide_eq_false (show ¬ 1 ≤ z.length by omega), Bool.false_and])] at q
        exact iteF ⟨_, rfl, iteT q⟩
    | _ => exact iteT q
def spAddr (K : PySem.W.Frag) : Sp := fun vs H Q _ => ∃ (v : V) (d : PyData), vs = [v] ∧ Th K H v d ∧ Fits d ∧ Q (.bl (addrD d)) H
theorem scA : FnScope ["value", "word"] ["value"] (defScope sAddr) := ⟨rfl, rfl, rfl, by decide +kernel, rfl, by decide +kernel, by decide +kernel⟩
theorem all_take {ds : List PyData} {p : PyData → Bool} {i : Nat} {d : PyData} (h : ds[i]? = some d) : (ds.take (i + 1)).all p = ((ds.take i).all p && p d) := by
  rw [List.take_succ, h]
  simp
theorem ok_addr (Fd : Fun K "is_address" "is_address" sAddr f fd) (T : Tx mg) (D : Df P w K mg base 1 "is_word" ["value"] (spWord K)) : FnOk P w K mg base CX0 2 f fd ["value"] (spAddr K) := by
  refine Fd.ok scA (fun vs H Q E h => ?_) (fun cdv A outer s H vs Q E hr h => ?_)
  · obtain ⟨v, d, rfl, _⟩ := h
    rfl
  · obtain ⟨v, d, rfl, hT, hf, q⟩ := h
    refine ⟨_, pss_cons (ps_if (pt_not (pt_val (pe_callB (call_isa "tuple") (by rfl) T.isi bootN (pa_cons (pv 0) (pa_cons (pe_bltn (v := .ty "tuple") (by rfl) T.tuple (by decide +kernel) rfl) pa_nil))))) (pss_one (ps_ret pe_bl)) pss_nil)
      (pss_cons (ps_for PassesOwn.never rfl (pi_tup (pv 0)) (pg_name (i := 1) scA.nd rfl (Or.inl rfl)) (pss_one (ps_if (pt_not (pt_val (pe_df D hr (pa_cons (pv 1) pa_nil)))) (pss_one (ps_ret pe_bl)) pss_nil)))
      (pss_one (ps_ret pe_bl))), ?_⟩
    refine ⟨_, rfl, _, rfl, _, _, hT.ty, kit_tuple d, _, rfl, ?_⟩
    cases d with
    | tuple ds =>
      obtain ⟨a, xs, rfl, hs, hl, hi⟩ := hT.its
      refine iteF ⟨_, rfl, a, rfl, ⟨_, hs⟩, for_tup (K := K) (a := a) (xs := xs) (fun i σ H2 => H2 = H ∧ (∃ u, σ = [some (.ref a), u]) ∧ (ds.take i).all wordD = true) ⟨rfl, ⟨none, rfl⟩, by simp⟩ (fun i σ H2 _ h => by rw [h.1]; exact hs) ?_ ?_⟩
      · rintro i x σ H2 hx ⟨rfl, ⟨u, rfl⟩, ha⟩
        obtain ⟨d, h1, h2⟩ := hi i x hx
        refine ⟨_, rfl, x, d, rfl, .lf h2, (hf.2 ds rfl).2 d (List.mem_of_getElem? h1), _, rfl, ?_⟩
        cases e : wordD d with
          | true =>
            refine iteF ⟨rfl, ⟨_, rfl⟩, ?_⟩
            rw [all_take h1, ha, e]
            rfl
          | false =>
            refine iteT ?_
            have e2 : addrD (.tuple ds) = false := by
              show ds.all wordD = false
              exact List.all_eq_false.mpr ⟨d, List.mem_of_getElem? h1, by rw [e]; exact Bool.false_ne_true⟩
            rw [e2] at q
            exact q
      · rintro σ H2 ⟨rfl, ⟨u, rfl⟩, ha⟩
        have e2 : addrD (.tuple ds) = true := by
          show ds.all wordD = true
          rw [hl, List.take_length] at ha
          exact ha
        rw [e2] at q
        exact q
    | _ => exact iteT q
end
end K1
namespace K1
open PySem L2 Ld
abbrev sWell : Stmt := top 8
abbrev sDraw : Stmt := top 9
abbrev sChoose : Stmt := top 10
section
variable {P : Program} {w : World} {K : PySem.W.Frag} {mg : Str → Option Value} {base : Heap} {f : Addr} {fd : FuncData}
def spWell (K : PySem.W.Frag) : Sp := fun vs H Q _ => ∃ (a : Addr) (ns : List Int) (j : Int) (B : Nat), vs = [.ref a, .int j] ∧ SqL K H a (ns.map V.int) ∧ ns.length ≤ 63 ∧ 60 ≤ B ∧ B ≤ 2000000 ∧ (∀ z ∈ ns, Builtin.Int.intBits z ≤ B) ∧ 0 ≤ j ∧ j < 100 ∧
  ∀ wa H', H wa = none → Well H' wa → Same H H' → Q (.ref wa) H'
theorem scWell : FnScope ["_law_script", "_law_start", "_law_mixed", "_law_entry", "_law_digits"] ["_law_script", "_law_start"] (defScope sWell) := ⟨rfl, rfl, rfl, by decide +kernel, rfl, by decide +kernel, by decide +kernel⟩
theorem ok_well (Fd : Fun K "_law_well" "_law_well" sWell f fd) (T : Tx mg) : FnOk P w K mg base CX0 1 f fd ["_law_script", "_law_start"] (spWell K) := by
  refine Fd.ok scWell (fun vs H Q E h => ?_) (fun cdv A outer s H vs Q E hr h => ?_)
  · obtain ⟨a, ns, j, B, rfl, _⟩ := h
    rfl
  · obtain ⟨a, ns, j, B, rfl, hS, hlen, hB, hB2, hb, hj0, hj, q⟩ := h
    refine ⟨_, pss_cons (ps_set (i := 2) scWell.nd rfl (Or.inl rfl) (pe_op op_add pe_int (pe_op op_mul (pv 1) pe_int)))
      (pss_cons (ps_for PassesOwn.never rfl (pi_list (pv 0)) (pg_name (i := 3) scWell.nd rfl (Or.inl rfl))
        (pss_one (ps_set (i := 2) scWell.nd rfl (Or.inl rfl) (pe_op op_add (pe_op op_mod (pe_callTy call_int1 (by rfl) T.int (by decide +kernel) (pa_cons (pe_op op_powB (pe_op op_add (pe_op op_add (pe_op op_mulB (pv 2) pe_int) (pe_op op_mulB (pv 3) (pv 3))) pe_int) pe_int) pa_nil)) pe_int) pe_int))))
      (pss_cons (ps_set (i := 4) scWell.nd rfl (Or.inl rfl) (pe_ifExp (PW.pt (pw_and (pt_cmpR op_lt (pv 1) (pe_callB call_len_seq (by rfl) T.len PySem.boot_len (pa_cons (pv 0) pa_nil)) (nomark _))
          (pw_and1 (pt_cmpR op_ge (pe_ix ix_list (pv 0) (pv 1) (fun _ _ => rfl)) (pe_op op_pow pe_int pe_int) (nomark _)))))
          (pe_op op_sub (pe_ix ix_list (pv 0) (pv 1) (fun _ _ => rfl)) (pe_op op_pow pe_int pe_int)) pe_int))
      (pss_one (ps_ret (pe_disp (pps_cons pe_str (pv 4) (pps_cons pe_str (pv 2) pps_nil)) (by rfl) (by rfl) (fun z => by cases z) (by decide)))))), ?_⟩
    refine ⟨_, rfl, _, _, rfl, rfl, .inr ⟨by decide, by decide⟩, _, _, rfl, rfl, ?_⟩
    refine ⟨_, rfl, a, rfl, ⟨_, hS⟩, for_list (K := K) (a := a) (xs := ns.map V.int) (fun i σ H2 => H2 = H ∧ ∃ (m : Int) (u : Option V), σ = [some (.ref a), some (.int j), some (.int m), u, none] ∧ 0 ≤ m ∧ m < 2 ^ 40)
      ⟨rfl, _, none, rfl, by omega, by omega⟩ (fun i σ H2 _ h => by rw [h.1]; exact hS) ?_ ?_⟩
    · rintro i y σ H2 hi ⟨rfl, m, u, rfl, h0, h1⟩
      obtain ⟨z, hz, rfl⟩ := list_get hi
      have bz := hb z (List.mem_of_getElem? hz)
      have hm := mul_small (c := 70019) h0 h1 (by decide) (by decide)
      have hw := sq_wide (of_bits bz) hm hB
      have hbw := bits_of hw
      refine ⟨_, rfl, _, _, rfl, rfl, ?_, _, rfl, _, rfl, _, _, rfl, rfl, ?_, _, _, rfl, rfl, _, _, rfl, rfl, _, _, rfl, rfl, ?_, .inl ⟨_, rfl, _, _, rfl, rfl, (show (0 : Int) < 2147483489 by decide), _, _, rfl, rfl, ?_⟩⟩
      · have := bits_small h0 h1
        show Builtin.Int.intBits m + Builtin.Int.intBits 70019 ≤ 2 ^ 27
        have e : Builtin.Int.intBits 70019 ≤ 17 := by decide +kernel
        omega
      · show Builtin.Int.intBits z + Builtin.Int.intBits z ≤ 2 ^ 27
        omega
      · refine ⟨by decide, ?_⟩
        omega
      · refine ⟨rfl, _, _, rfl, ?_, ?_⟩
        · have := Int.emod_nonneg ((m * 70019 + z * z + 59) ^ (2 : Int).toNat) (show (2147483489 : Int) ≠ 0 by decide)
          omega
        · have := Int.emod_lt_of_pos ((m * 70019 + z * z + 59) ^ (2 : Int).toNat) (show (0 : Int) < 2147483489 by decide)
          omega
    · rintro σ H2 ⟨rfl, m, u, rfl, h0, h1⟩
      have last : ∀ dg : Int, 0 ≤ dg → tDisp [((fun σ H Q => Q (V.str "digits") H : TE), (tVar 4 : TE)), ((fun σ H Q => Q (V.str "mixed") H : TE), (tVar 2 : TE))] [some (.ref a), some (.int j), some (.int m), u, some (.int dg)] H2 Q := fun dg hd => by
        intro p hp
        refine ⟨_, rfl, _, rfl, upd_same, [(kd, V.int dg), (km, V.int m)], rfl, (show 2 ≤ 15 by decide), ?_⟩
        refine q p _ hp ⟨dg, m, by rw [upd_same, merge_well], hd, h0, h1⟩ fun b o e => ?_
        rw [upd_ne (ne_of_none e hp), upd_ne (ne_of_none e hp)]
        exact e
      refine ⟨_, rfl, _, rfl, a, _, rfl, .inl hS, _, _, rfl, rfl, _, rfl, ?_⟩
      by_cases hjl : j < (((ns.map V.int).length : Nat) : Int)
      · rw [decide_eq_true hjl]
        rw [List.length_map] at hjl
        obtain ⟨z, hz⟩ : ∃ z, ns[j.toNat]? = some z := ⟨ns[j.toNat]'(by omega), List.getElem?_eq_getElem _⟩
        have hat : atI (ns.map V.int) j = some (.int z) := at_of (j := j.toNat) (by omega) (by rw [List.getElem?_map, hz]; rfl)
        have cp : CPow 10 18 := ⟨by decide, by decide, by decide⟩
        refine iteT ⟨_, rfl, _, rfl, a, _, _, _, rfl, rfl, hS, hat, _, _, rfl, rfl, cp, _, _, rfl, rfl, _, rfl, ?_⟩
        by_cases hz2 : (10 : Int) ^ (18 : Int).toNat ≤ z
        · rw [decide_eq_true hz2]
          exact iteT ⟨_, rfl, _, rfl, a, _, _, _, rfl, rfl, hS, hat, _, _, rfl, rfl, cp, _, _, rfl, rfl, last _ (by omega)⟩
        · rw [decide_eq_false hz2]
          exact iteF (last 0 (by decide))
      · rw [decide_eq_false hjl]
        exact iteF (last 0 (by decide))
def spDraw : Sp := fun vs H Q _ => ∃ (wa : Addr) (n : Int), vs = [.ref wa, .int n] ∧ Well H wa ∧ 0 < n ∧ n < 1073741824 ∧ ∀ (k : Int) H', 0 ≤ k → k < n → Well H' wa → Sb wa H H' → Q (.int k) H'
theorem scDraw : FnScope ["_law_well_here", "_law_many", "_law_found"] ["_law_well_here", "_law_many"] (defScope sDraw) := ⟨rfl, rfl, rfl, by decide +kernel, rfl, by decide +kernel, by decide +kernel⟩
theorem ok_draw (Fd : Fun K "_law_draw" "_law_draw" sDraw f fd) (T : Tx mg) : FnOk P w K mg base CX0 1 f fd ["_law_well_here", "_law_many"] spDraw := by
  refine Fd.ok scDraw (fun vs H Q E h => ?_) (fun cdv A outer s H vs Q E hr h => ?_)
  · obtain ⟨wa, n, rfl, _⟩ := h
    rfl
  · obtain ⟨wa, n, rfl, ⟨d, m, hw, hd, hm0, hm1⟩, hn0, hn1, q⟩ := h
    have hu := hu_of hr
    refine ⟨_, pss_cons (ps_if (pt_cmpR op_ge (pe_dget hu (pv 0) pe_str (fun _ _ => rfl)) (pv 1) (nomark _))
        (pss_cons (ps_set (i := 2) scDraw.nd rfl (Or.inl rfl) (pe_op op_mod (pe_callTy call_int1 (by rfl) T.int (by decide +kernel) (pa_cons (pe_dget hu (pv 0) pe_str (fun _ _ => rfl)) pa_nil)) (pv 1)))
        (pss_cons (ps_dput hu (pv 0) pe_str (pe_op op_fdiv (pe_dget hu (pv 0) pe_str (fun _ _ => rfl)) (pv 1)) rfl)
        (pss_one (ps_ret (pv 2))))) pss_nil)
      (pss_cons (ps_dput hu (pv 0) pe_str (pe_op op_mod (pe_callTy call_int1 (by rfl) T.int (by decide +kernel) (pa_cons (pe_op op_add (pe_op op_mul (pe_dget hu (pv 0) pe_str (fun _ _ => rfl)) pe_int) pe_int) pa_nil)) pe_int) rfl)
      (pss_one (ps_ret (pe_op op_mod (pe_op op_fdiv (pe_op op_mod (pe_callTy call_int1 (by rfl) T.int (by decide +kernel) (pa_cons (pe_op op_pow (pe_op op_mod (pe_callTy call_int1 (by rfl) T.int (by decide +kernel) (pa_cons (pe_op op_pow (pe_dget hu (pv 0) pe_str (fun _ _ => rfl)) pe_int) pa_nil)) pe_int) pe_int) pa_nil)) pe_int) pe_int) (pv 1))))), ?_⟩
    have gd : ∀ {H2 : Hp} {d m : Int}, H2 wa = some (.dK (wellKv d m)) → DGet H2 wa (.str "digits") (some (.int d)) := fun {H2 d m} h => by
      have z := DGet.k (k := kd) h
      rw [well_dig] at z
      exact z
    have gm : ∀ {H2 : Hp} {d m : Int}, H2 wa = some (.dK (wellKv d m)) → DGet H2 wa (.str "mixed") (some (.int m)) := fun {H2 d m} h => by
      have z := DGet.k (k := km) h
      rw [well_mix] at z
      exact z
    refine ⟨_, rfl, wa, _, rfl, gd hw, _, rfl, _, _, rfl, rfl, _, rfl, ?_⟩
    by_cases hdn : n ≤ d
    · rw [decide_eq_true hdn]
      refine iteT ⟨_, rfl, wa, _, rfl, gd hw, .inl ⟨_, rfl, _, rfl, _, _, rfl, rfl, hn0, ?_⟩⟩
      refine ⟨_, rfl, wa, _, rfl, gd hw, _, rfl, _, _, rfl, rfl, ⟨hn0, hn1⟩, _, rfl, wa, _, rfl, DPut.k (k := kd) hw (show 2 < sizeLine by decide), _, rfl, ?_⟩
      rw [put_dig]
      exact q _ _ (Int.emod_nonneg _ (by omega)) (Int.emod_lt_of_pos _ hn0) ⟨_, m, upd_same, Int.ediv_nonneg hd (by omega), hm0, hm1⟩ (.put wa H _)
    · rw [decide_eq_false hdn]
      have m0 := Int.emod_nonneg (m * 44111 + 5903) (show (2147483647 : Int) ≠ 0 by decide)
      have m1 := Int.emod_lt_of_pos (m * 44111 + 5903) (show (0 : Int) < 2147483647 by decide)
      refine iteF ⟨_, rfl, wa, _, rfl, gm hw, _, _, rfl, rfl, .inr ⟨by decide, by decide⟩, _, _, rfl, rfl, .inl ⟨_, rfl, _, _, rfl, rfl, (show (0 : Int) < 2147483647 by decide), _, rfl, wa, _, rfl, DPut.k (k := km) hw (show 2 < sizeLine by decide), ?_⟩⟩
      rw [put_mix]
      generalize (m * 44111 + 5903) % 2147483647 = m' at m0 m1
      have n0 := Int.emod_nonneg (m' ^ (2 : Int).toNat) (show (2147483549 : Int) ≠ 0 by decide)
      have n1 := Int.emod_lt_of_pos (m' ^ (2 : Int).toNat) (show (0 : Int) < 2147483549 by decide)
      refine ⟨_, rfl, wa, _, rfl, gm upd_same, _, _, rfl, rfl, ⟨by decide, by decide, by omega⟩, .inl ⟨_, rfl, _, _, rfl, rfl, (show (0 : Int) < 2147483549 by decide), ?_⟩⟩
      generalize m' ^ (2 : Int).toNat % 2147483549 = k at n0 n1
      refine ⟨_, _, rfl, rfl, ⟨by decide, by decide, by omega⟩, .inl ⟨_, rfl, _, _, rfl, rfl, (show (0 : Int) < 1000000021 by decide), _, _, rfl, rfl, ⟨by decide, by decide⟩, _, rfl, _, _, rfl, rfl, hn0, ?_⟩⟩
      exact q _ _ (Int.emod_nonneg _ (by omega)) (Int.emod_lt_of_pos _ hn0) ⟨d, m', upd_same, hd, m0, by omega⟩ (.put wa H _)
def spChoose (K : PySem.W.Frag) : Sp := fun vs H Q _ => ∃ (wa la : Addr) (xs : List V), vs = [.ref wa, .ref la] ∧ Well H wa ∧ SqL K H la xs ∧ xs ≠ [] ∧ xs.length ≤ 1000 ∧ ∀ v H', v ∈ xs → Well H' wa → Sb wa H H' → Q v H'
theorem scChoose : FnScope ["_law_well_here", "_law_things"] ["_law_well_here", "_law_things"] (defScope sChoose) := ⟨rfl, rfl, rfl, by decide +kernel, rfl, by decide +kernel, by decide +kernel⟩
theorem ok_choose (Fd : Fun K "_law_choose" "_law_choose" sChoose f fd) (T : Tx mg) (D : Df P w K mg base 1 "_law_draw" ["_law_well_here", "_law_many"] spDraw) : FnOk P w K mg base CX0 2 f fd ["_law_well_here", "_law_things"] (spChoose K) := by
  refine Fd.ok scChoose (fun vs H Q E h => ?_) (fun cdv A outer s H vs Q E hr h => ?_)
  · obtain ⟨wa, la, xs, rfl, _⟩ := h
    rfl
  · obtain ⟨wa, la, xs, rfl, hw, hS, hne, hlen, q⟩ := h
    refine ⟨_, pss_one (ps_ret (pe_ix ix_list (pv 1) (pe_df D hr (pa_cons (pv 0) (pa_cons (pe_callB call_len_seq (by rfl) T.len PySem.boot_len (pa_cons (pv 1) pa_nil)) pa_nil))) (fun _ _ => rfl))), ?_⟩
    have hl : 0 < xs.length := List.length_pos_iff.mpr hne
    refine ⟨_, rfl, _, rfl, _, rfl, la, xs, rfl, .inl hS, wa, _, rfl, hw, by omega, by omega, fun k H' h0 h1 W' s' => ?_⟩
    obtain ⟨v, hv⟩ : ∃ v, xs[k.toNat]? = some v := ⟨xs[k.toNat]'(by omega), List.getElem?_eq_getElem _⟩
    exact ⟨la, xs, _, v, rfl, rfl, seqL hw s' hS, at_of (j := k.toNat) (by omega) hv, q v H' (List.mem_of_getElem? hv) W' s'⟩
end
end K1
namespace K1
open PySem L2 Ld
abbrev sWordDue : Stmt := top 11
abbrev sAddrDue : Stmt := top 12
abbrev sDayDue : Stmt := top 13
section
variable {P : Program} {w : World} {K : PySem.W.Frag} {mg : Str → Option Value} {base : Heap} {f : Addr} {fd : FuncData}
def spWordDue (K : PySem.W.Frag) : Sp := fun vs H Q _ => ∃ (v : V) (d : PyData), vs = [v] ∧ Th K H v d ∧ FitS d ∧ ∀ H', Same H H' → Q (.bl (wordD d)) H'
theorem scWD : FnScope ["_law_thing", "_law_sign"] ["_law_thing"] (defScope sWordDue) := ⟨rfl, rfl, rfl, by decide +kernel, rfl, by decide +kernel, by decide +kernel⟩
theorem cps_a : ("a" : Str).cps.toList = [97] := by decide +kernel
theorem cps_z : ("z" : Str).cps.toList = [122] := by decide +kernel
theorem le_a (c : Nat) : (!decide ((⟨#[c]⟩ : Str).cps.toList < ("a" : Str).cps.toList)) = decide (97 ≤ c) := by
  rw [cps_a]
  show (!decide ([c] < [97])) = _
  rw [one_lt]
  by_cases h : 97 ≤ c
  · rw [decide_eq_true h, decide_eq_false (by omega)]
    rfl
  · rw [decide_eq_false h, decide_eq_true (by omega)]
    rfl
theorem le_z (c : Nat) : (!decide (("z" : Str).cps.toList < (⟨#[c]⟩ : Str).cps.toList)) = decide (c ≤ 122) := by
  rw [cps_z]
  show (!decide ([122] < [c])) = _
  rw [one_lt]
  by_cases h : c ≤ 122
  · rw [decide_eq_true h, decide_eq_false (by omega)]
    rfl
  · rw [decide_eq_false h, decide_eq_true (by omega)]
    rfl
theorem all_snoc {l : List Nat} {i c : Nat} (p : Nat → Bool) (h : l[i]? = some c) : (l.take (i + 1)).all p = ((l.take i).all p && p c) := by
  rw [List.take_succ, h]
  simp
theorem dp_signs : ∀ cs : List Nat, DpAll K H (cs.map fun c => V.str ⟨#[c]⟩) (cs.map fun c => PyData.str ⟨#[c]⟩)
  | [] => .nil
  | c :: cs => .cons (.str _) (dp_signs cs)
theorem lay_signs : ∀ cs : List Nat, (∀ c ∈ cs, c < 128) → PyData.canLayAll0 (cs.map fun c => PyData.str ⟨#[c]⟩) = true
  | [], _ => rfl
  | c :: cs, h => by
    have h1 := h c List.mem_cons_self
    have h2 := lay_signs cs fun x hx => h x (List.mem_cons_of_mem _ hx)
    simp only [List.map_cons, PyData.canLayAll0, PyData.canLay0, h2, Bool.and_true]
    unfold PyData.strOk
    simp
    omega
theorem depth_signs : ∀ cs : List Nat, PyData.depthAll (cs.map fun c => PyData.str ⟨#[c]⟩) = 0
  | [] => rfl
  | c :: cs => by simp [PyData.depthAll, PyData.depth, depth_signs cs]
theorem shaped_signs {cs : List Nat} (h : ∀ c ∈ cs, c < 128) : SeqAt.shaped (.list (cs.map fun c => PyData.str ⟨#[c]⟩)) = true := by
  unfold SeqAt.shaped
  simp only [PyData.canLay0, lay_signs cs h, PyData.depth, depth_signs]
  decide
theorem ok_wordDue (Fd : Fun K "_law_word_due" "_law_word_due" sWordDue f fd) (T : Tx mg) : FnOk P w K mg base CX0 1 f fd ["_law_thing"] (spWordDue K) := by
  refine Fd.ok scWD (fun vs H Q E h => ?_) (fun cdv A outer s H vs Q E hr h => ?_)
  · obtain ⟨v, d, rfl, _⟩ := h
    rfl
  · obtain ⟨v, d, rfl, hT, hf, q⟩ := h
    refine ⟨_, pss_cons (ps_if (PW.pt (pw_or (pt_not (pt_val (pe_callB (call_isa "str") (by rfl) T.isi bootN (pa_cons (pv 0) (pa_cons (pe_bltn (v := .ty "str") (by rfl) T.str (by decide +kernel) rfl) pa_nil)))))
        (pw_or1 (pt_not (pt_chain op_le op_le pe_int (pe_callB call_len_str (by rfl) T.len PySem.boot_len (pa_cons (pv 0) pa_nil)) pe_int)))))
        (pss_one (ps_ret pe_bl)) pss_nil)
      (pss_one (ps_ret (pe_cmpR (op_eqD hr.units) (pe_lc (own := [("_law_sign", 1)]) (g := gName 1) (by rfl) scWD.nd (pi_str (pv 0)) (blkOk_by (own := [("_law_sign", 1)]) (N := ["_law_thing", "_law_sign"]) (sc := defScope sWordDue) (by decide +kernel))
        (fun _ _ _ _ _ => pg_name (i := 1) scWD.nd rfl (Or.inl rfl)) (fun _ _ _ _ _ => pts_one (pt_not (pt_chain op_le_str op_le_str pe_str (pv 1) pe_str))) (fun _ _ _ _ _ => pv 1)) (pe_lst pa_nil) (nomark _)))), ?_⟩
    refine ⟨_, rfl, _, rfl, _, _, hT.ty, kit_str d, _, rfl, ?_⟩
    cases d with
    | str z =>
      have e := hT.str_v
      subst e
      have hA : Asc z := hf z rfl
      refine iteF ⟨_, rfl, _, rfl, hA.size, _, _, rfl, rfl, _, rfl, ?_⟩
      have bad : (decide (1 ≤ z.length) && decide (z.length ≤ 12)) = false → wordD (.str z) = false := fun e => by
        show wordS z = false
        unfold wordS
        rw [e, Bool.false_and]
      by_cases h1 : (1 : Int) ≤ (z.length : Int)
      · rw [decide_eq_true h1]
        refine iteT ⟨_, _, rfl, rfl, _, rfl, ?_⟩
        by_cases h2 : (z.length : Int) ≤ 12
        · rw [decide_eq_true h2]
          refine iteF ⟨_, rfl, z, rfl, ?_⟩
          intro D hD
          refine lc_str (fun i H2 => ∃ cs : List Nat, Same H H2 ∧ H2 D = some (.lst (cs.map fun c => V.str ⟨#[c]⟩)) ∧ cs.length ≤ i ∧ (∀ c ∈ cs, c < 128) ∧ cs.isEmpty = (z.cps.toList.take i).all low) ⟨[], Same.new hD, upd_same, Nat.le_refl _, (fun c hc => nomatch hc), by simp⟩ ?_ ?_
          · rintro i c H2 hc ⟨cs, s2, hl, hn, h128, he⟩
            have hc2 : z.cps.toList[i]? = some c := by simpa using hc
            have c128 : c < 128 := hA.2 c (List.mem_of_getElem? hc2)
            have hi : i < z.length := by
              have := (List.getElem?_eq_some_iff.mp hc2).1
              simpa [Str.length] using this
            refine ⟨rfl, ?_⟩
            have keep : low c = true → ∃ cs : List Nat, Same H H2 ∧ H2 D = some (.lst (cs.map fun c => V.str ⟨#[c]⟩)) ∧ cs.length ≤ i + 1 ∧ (∀ c ∈ cs, c < 128) ∧ cs.isEmpty = (z.cps.toList.take (i + 1)).all low := fun e =>
              ⟨cs, s2, hl, by omega, h128, by rw [all_snoc low hc2, ← he, e, Bool.and_true]⟩
            have more : low c = false → ∃ acc, H2 D = some (.lst acc) ∧ acc.length < sizeLine ∧ ∃ cs : List Nat, Same H (upd H2 D (.lst (acc ++ [V.str ⟨#[c]⟩]))) ∧
                (upd H2 D (.lst (acc ++ [V.str ⟨#[c]⟩]))) D = some (.lst (cs.map fun c => V.str ⟨#[c]⟩)) ∧ cs.length ≤ i + 1 ∧ (∀ c ∈ cs, c < 128) ∧ cs.isEmpty = (z.cps.toList.take (i + 1)).all low := fun e => by
              refine ⟨_, hl, by rw [List.length_map]; exact Nat.lt_of_le_of_lt (Nat.le_trans hn (by have := hA.1; omega)) (show 100 < sizeLine by decide), cs ++ [c], fun b o eb => ?_, ?_, by simp; omega, fun x hx => ?_, ?_⟩
              · rw [upd_ne (ne_of_none eb hD)]
                exact s2 b o eb
              · rw [upd_same, List.map_append]
                rfl
              · rcases List.mem_append.mp hx with g | g
                · exact h128 x g
                · rw [List.mem_singleton.mp g]
                  exact c128
              · rw [all_snoc low hc2, e, Bool.and_false]
                simp
            refine ⟨_, rfl, _, _, rfl, rfl, _, rfl, ?_⟩
            rw [le_a]
            by_cases g1 : 97 ≤ c
            · rw [decide_eq_true g1]
              refine iteT ⟨_, _, rfl, rfl, _, rfl, ?_⟩
              rw [le_z]
              by_cases g2 : c ≤ 122
              · rw [decide_eq_true g2]
                exact iteF (keep (by simp [low, g1, g2]))
              · rw [decide_eq_false g2]
                exact iteT ⟨_, rfl, more (by simp [low, g2])⟩
            · rw [decide_eq_false g1]
              exact iteF ⟨_, rfl, iteT ⟨_, rfl, more (by simp [low, g1])⟩⟩
          · rintro H2 ⟨cs, s2, hl, hn, h128, he⟩
            refine ⟨by decide, fun p hp => ?_⟩
            have ne : D ≠ p := ne_of_none hl hp
            refine ⟨.list (cs.map fun c => PyData.str ⟨#[c]⟩), .list [], .lst (.of (by rw [upd_ne ne]; exact hl)) (dp_signs cs), .lst (.of upd_same) .nil, shaped_signs h128, by decide, ?_⟩
            rw [eqv_nil_tuple]
            have e1 : (cs.map fun c => PyData.str ⟨#[c]⟩).isEmpty = wordD (.str z) := by
              rw [List.isEmpty_map, he]
              have e2 : z.cps.toList.take z.cps.size = z.cps.toList := by
                rw [← Array.length_toList, List.take_length]
              rw [e2]
              show lows z = wordS z
              unfold wordS
              rw [decide_eq_true (show 1 ≤ z.length by omega), decide_eq_true (show z.length ≤ 12 by omega)]
              rfl
            rw [e1]
            exact q _ fun b o eb => by
              rw [upd_ne (ne_of_none (s2 b o eb) hp)]
              exact s2 b o eb
        · rw [decide_eq_false h2]
          rw [bad (by rw [decide_eq_false (show ¬ z.length ≤ 12 by omega), Bool.and_false])] at q
          exact iteT (q H (Same.refl H))
      · rw [decide_eq_false h1]
        rw [bad (by rw [decide_eq_false (show ¬ 1 ≤ z.length by omega), Bool.false_and])] at q
        exact iteF ⟨_, rfl, iteT (q H (Same.refl H))⟩
    | _ => exact iteT (q H (Same.refl H))
def spAddrDue (K : PySem.W.Frag) : Sp := fun vs H Q _ => ∃ (v : V) (d : PyData), vs = [v] ∧ Th K H v d ∧ Fits d ∧ ∀ H', Same H H' → Q (.bl (addrD d)) H'
theorem scAD : FnScope ["_law_thing", "_law_word"] ["_law_thing"] (defScope sAddrDue) := ⟨rfl, rfl, rfl, by decide +kernel, rfl, by decide +kernel, by decide +kernel⟩
theorem ok_addrDue (Fd : Fun K "_law_address_due" "_law_address_due" sAddrDue f fd) (T : Tx mg) (D : Df P w K mg base 1 "_law_word_due" ["_law_thing"] (spWordDue K)) : FnOk P w K mg base CX0 2 f fd ["_law_thing"] (spAddrDue K) := by
  refine Fd.ok scAD (fun vs H Q E h => ?_) (fun cdv A outer s H vs Q E hr h => ?_)
  · obtain ⟨v, d, rfl, _⟩ := h
    rfl
  · obtain ⟨v, d, rfl, hT, hf, q⟩ := h
    refine ⟨_, pss_one (ps_ret (pe_and (pe_callB (call_isa "tuple") (by rfl) T.isi bootN (pa_cons (pv 0) (pa_cons (pe_bltn (v := .ty "tuple") (by rfl) T.tuple (by decide +kernel) rfl) pa_nil)))
      (pe_one (pe_cmpR (op_eq0 hr.units) (pe_lc (own := [("_law_word", 1)]) (g := gName 1) (by rfl) scAD.nd (pi_tup (pv 0)) (blkOk_by (own := [("_law_word", 1)]) (N := ["_law_thing", "_law_word"]) (sc := defScope sAddrDue) (by decide +kernel))
        (fun _ _ _ _ _ => pg_name (i := 1) scAD.nd rfl (Or.inl rfl)) (fun _ _ _ _ _ => pts_one (pt_not (pt_val (pe_df D hr (pa_cons (pv 1) pa_nil))))) (fun _ _ _ _ _ => pv 1)) (pe_lst pa_nil) (nomark _))))), ?_⟩
    refine ⟨_, rfl, _, rfl, _, _, hT.ty, kit_tuple d, _, rfl, ?_⟩
    cases d with
    | tuple ds =>
      obtain ⟨a, xs, rfl, hs, hl, hi⟩ := hT.its
      refine iteT ⟨_, rfl, a, rfl, ⟨_, hs⟩, ?_⟩
      intro D hD
      refine lc_tup (K := K) (a := a) (xs := xs) (fun i H2 => ∃ ys : List V, Same H H2 ∧ H2 D = some (.lst ys) ∧ ys.length ≤ i ∧ ys.isEmpty = (ds.take i).all wordD) ⟨[], Same.new hD, upd_same, Nat.le_refl _, by simp⟩ (fun i H2 _ ⟨_, s2, _⟩ => same_T s2 hs) ?_ ?_
      · rintro i x H2 hx ⟨ys, s2, hy, hn, he⟩
        obtain ⟨d, h1, h2⟩ := hi i x hx
        refine ⟨rfl, ?_⟩
        refine ⟨_, rfl, x, d, rfl, .lf (h2.same s2), (hf.2 ds rfl).2 d (List.mem_of_getElem? h1), fun H3 s3 => ⟨_, rfl, ?_⟩⟩
        cases e : wordD d with
        | true =>
          refine iteF ⟨ys, s2.trans s3, s3 _ _ hy, by omega, ?_⟩
          rw [all_take h1, ← he, e, Bool.and_true]
        | false =>
          have hxs : xs.length ≤ 10000 := by rw [hl]; exact (hf.2 ds rfl).1
          have hil : i < xs.length := (List.getElem?_eq_some_iff.mp hx).1
          refine iteT ⟨x, rfl, ys, s3 _ _ hy, Nat.lt_of_lt_of_le (Nat.lt_of_le_of_lt hn hil) (Nat.le_trans hxs (show 10000 ≤ sizeLine by decide)), ys ++ [x], fun b o eb => ?_, upd_same, by simp; omega, ?_⟩
          · rw [upd_ne (ne_of_none eb hD)]
            exact s3 _ _ (s2 b o eb)
          · rw [all_take h1, e, Bool.and_false]
            simp
      · rintro H2 ⟨ys, s2, hy, hn, he⟩
        refine ⟨by decide, fun p hp => ?_⟩
        have ne : D ≠ p := ne_of_none hy hp
        refine ⟨D, p, ys, rfl, rfl, by rw [upd_ne ne]; exact hy, upd_same, ?_⟩
        have e1 : ys.isEmpty = addrD (.tuple ds) := by
          rw [he, hl, List.take_length]
          rfl
        rw [e1]
        exact q _ fun b o eb => by
          rw [upd_ne (ne_of_none (s2 b o eb) hp)]
          exact s2 b o eb
    | _ => exact iteF (q H (Same.refl H))
theorem scDD : FnScope ["_law_thing"] ["_law_thing"] (defScope sDayDue) := ⟨rfl, rfl, rfl, by decide +kernel, rfl, by decide +kernel, by decide +kernel⟩
theorem ok_dayDue (Fd : Fun K "_law_day_due" "_law_day_due" sDayDue f fd) (T : Tx mg) : FnOk P w K mg base CX0 1 f fd ["_law_thing"] (spDay K) := by
  refine Fd.ok scDD (fun vs H Q E h => ?_) (fun cdv A outer s H vs Q E hr h => ?_)
  · obtain ⟨v, d, rfl, _⟩ := h
    rfl
  · obtain ⟨v, d, rfl, hT, q⟩ := h
    refine ⟨_, pss_one (ps_ret (pe_and (pe_callB (call_isa "int") (by rfl) T.isi bootN (pa_cons (pv 0) (pa_cons (pe_bltn (v := .ty "int") (by rfl) T.int (by decide +kernel) rfl) pa_nil)))
      (pe_and (pe_not (pe_callB (call_isa "bool") (by rfl) T.isi bootN (pa_cons (pv 0) (pa_cons (pe_bltn (v := .ty "bool") (by rfl) T.bool (by decide +kernel) rfl) pa_nil)))) (pe_one (pe_chain op_le op_le pe_int (pv 0) pe_int))))), ?_⟩
    refine ⟨_, rfl, _, rfl, _, _, hT.ty, kit_int d, _, rfl, ?_⟩
    by_cases hi1 : isIntD d = true
    · rw [hi1]
      refine iteT ⟨_, rfl, _, rfl, _, _, hT.ty, kit_bool d, _, rfl, _, rfl, ?_⟩
      cases d with
      | int i =>
        have e := hT.int_v
        subst e
        refine iteT ⟨_, rfl, _, _, rfl, rfl, _, rfl, ?_⟩
        by_cases h0 : 0 ≤ i
        · rw [decide_eq_true h0]
          refine iteT ⟨_, _, rfl, rfl, ?_⟩
          have e : numD 1000000 (.int i) = decide (i ≤ 1000000) := by simp [numD, h0]
          rw [e] at q
          exact q
        · rw [decide_eq_false h0]
          have e : numD 1000000 (.int i) = false := by simp [numD, h0]
          rw [e] at q
          exact iteF q
      | bool b => exact iteF q
      | none => cases hi1
      | str z => cases hi1
      | list ds => cases hi1
      | tuple ds => cases hi1
      | dict ds => cases hi1
    · have hi2 : isIntD d = false := by simpa using hi1
      rw [hi2]
      have e : numD 1000000 d = false := by
        cases d <;> first | rfl | (simp [isIntD] at hi2)
      rw [e] at q
      exact iteF q
abbrev sTold : Stmt := top 16
theorem small3 (a b c : Bool) : Small (.list [.bool a, .bool b, .bool c]) := by
  cases a <;> cases b <;> cases c <;> exact ⟨by decide, by decide, by decide +kernel⟩
def spTold (K : PySem.W.Frag) : Sp := fun vs H Q _ => ∃ (v : V) (d : PyData), vs = [v] ∧ Th K H v d ∧ Fits d ∧ Small d ∧ ∀ H', Same H H' → Q (.bl true) H'
theorem scTold : FnScope ["_law_thing", "_law_seen", "_law_due"] ["_law_thing"] (defScope sTold) := ⟨rfl, rfl, rfl, by decide +kernel, rfl, by decide +kernel, by decide +kernel⟩
theorem same_lst {H H2 : Hp} {p : Addr} {o : HO} (s : Same H H2) (h : H2 p = none) : Same H (upd H2 p o) := fun b u e => by
  rw [upd_ne (ne_of_none (s b u e) h)]
  exact s b u e
theorem ok_told (Fd : Fun K "_law_told" "_law_told" sTold f fd) (T : Tx mg) (WD : Df P w K mg base 1 "_law_word_due" ["_law_thing"] (spWordDue K)) (AD : Df P w K mg base 2 "_law_address_due" ["_law_thing"] (spAddrDue K))
    (DD : Df P w K mg base 1 "_law_day_due" ["_law_thing"] (spDay K)) (W : Df P w K mg base 1 "is_word" ["value"] (spWord K)) (A : Df P w K mg base 2 "is_address" ["value"] (spAddr K)) (D : Df P w K mg base 2 "is_day" ["value"] (spDay K)) :
    FnG P w K mg base 3 f fd ["_law_thing"] (spTold K) := by
  refine Fun.okG Fd scTold (fun vs H Q E h => ?_) (fun cdv A0 outer s H vs Q E hG hr h => ?_)
  · obtain ⟨v, d, rfl, _⟩ := h
    rfl
  · obtain ⟨v, d, rfl, hT, hf, hs, q⟩ := h
    refine ⟨_, pss_cons (ps_set (i := 1) scTold.nd rfl (Or.inl rfl) (pe_callB (call_repr hG hr.units) (by rfl) T.repr (by decide +kernel) (pa_cons (pv 0) pa_nil)))
      (pss_cons (ps_set (i := 2) scTold.nd rfl (Or.inl rfl) (pe_lst (pa_cons (pe_df WD hr (pa_cons (pv 0) pa_nil)) (pa_cons (pe_df AD hr (pa_cons (pv 0) pa_nil)) (pa_cons (pe_df DD hr (pa_cons (pv 0) pa_nil)) pa_nil)))))
      (pss_one (ps_ret (pe_and (pe_cmpR op_eq (pe_callB (call_repr hG hr.units) (by rfl) T.repr (by decide +kernel) (pa_cons (pe_lst (pa_cons (pe_df W hr (pa_cons (pv 0) pa_nil)) (pa_cons (pe_df A hr (pa_cons (pv 0) pa_nil)) (pa_cons (pe_df D hr (pa_cons (pv 0) pa_nil)) pa_nil)))) pa_nil))
          (pe_callB (call_repr hG hr.units) (by rfl) T.repr (by decide +kernel) (pa_cons (pv 2) pa_nil)) (nomark _))
        (pe_one (pe_cmpR op_eq (pe_callB (call_repr hG hr.units) (by rfl) T.repr (by decide +kernel) (pa_cons (pv 0) pa_nil)) (pv 1) (nomark _))))))), ?_⟩
    refine ⟨_, rfl, v, d, rfl, hT.rds, hs, ?_⟩
    refine ⟨_, rfl, v, d, rfl, hT, hf.1, fun H1 s1 => ?_⟩
    refine ⟨_, rfl, v, d, rfl, hT.same s1, hf, fun H2 s2 => ?_⟩
    have s12 := s1.trans s2
    refine ⟨_, rfl, v, d, rfl, hT.same s12, (show 3 ≤ sizeLine by decide), fun p hp => ?_⟩
    have s3 := same_lst (o := .lst [.bl (wordD d), .bl (addrD d), .bl (numD 1000000 d)]) s12 hp
    have hT3 := hT.same s3
    refine ⟨_, rfl, v, d, rfl, hT3, hf.1, _, rfl, v, d, rfl, hT3, hf, _, rfl, v, d, rfl, hT3, (show 3 ≤ sizeLine by decide), fun p2 hp2 => ?_⟩
    have ne : p ≠ p2 := ne_of_none upd_same hp2
    have dl : ∀ {H : Hp} {a : Addr}, H a = some (.lst [.bl (wordD d), .bl (addrD d), .bl (numD 1000000 d)]) → Lf K H (.ref a) (.list [.bool (wordD d), .bool (addrD d), .bool (numD 1000000 d)]) := fun h => .dat (.lst (.of h) (dp_bools [wordD d, addrD d, numD 1000000 d]))
    refine ⟨_, _, rfl, (dl upd_same).rds, small3 _ _ _, ?_⟩
    refine ⟨_, rfl, _, _, rfl, (dl (by rw [upd_ne ne]; exact upd_same)).rds, small3 _ _ _, ?_⟩
    have s4 := same_lst (o := .lst [.bl (wordD d), .bl (addrD d), .bl (numD 1000000 d)]) s3 hp2
    refine ⟨rfl, _, rfl, ?_⟩
    rw [decide_eq_true rfl]
    refine iteT ⟨_, rfl, v, d, rfl, (hT.same s4).rds, hs, _, rfl, rfl, ?_⟩
    rw [decide_eq_true rfl]
    exact q _ s4
end
end K1
namespace K1
open PySem L2 Ld
abbrev sAny : Stmt := top 14
abbrev sBent : Stmt := top 15
section
variable {P : Program} {w : World} {K : PySem.W.Frag} {mg : Str → Option Value} {base : Heap} {f : Addr} {fd : FuncData}
def spAny (K : PySem.W.Frag) : Sp := fun vs H Q _ => ∃ wa : Addr, vs = [.ref wa] ∧ Well H wa ∧ ∀ v H', Any K H' v → Well H' wa → Sb wa H H' → Q v H'
theorem scAny : FnScope ["_law_well_here", "_law_some"] ["_law_well_here"] (defScope sAny) := ⟨rfl, rfl, rfl, by decide +kernel, rfl, by decide +kernel, by decide +kernel⟩
def any1 : List V := [.non, .bl true, .bl false, .int 0, .int 1, .int (-1), .int 1000000, .int 1000001, .int (10 ^ (59 : Int).toNat), .str "", .str "a", .str "A", .str "a b", .str "a1", .str "a\n"]
def any2 : List V := [.str "/", .str "$", .str "*"]
theorem ok_any (Fd : Fun K "_law_any" "_law_any" sAny f fd) (T : Tx mg) (C : Df P w K mg base 2 "_law_choose" ["_law_well_here", "_law_things"] (spChoose K)) : FnOk P w K mg base CX0 3 f fd ["_law_well_here"] (spAny K) := by
  refine Fd.ok scAny (fun vs H Q E h => ?_) (fun cdv A outer s H vs Q E hr h => ?_)
  · obtain ⟨wa, rfl, _⟩ := h
    rfl
  · obtain ⟨wa, rfl, hw, q⟩ := h
    refine ⟨_, pss_cons (ps_set (i := 1) scAny.nd rfl (Or.inl rfl) (pe_lst (pa_cons pe_non (pa_cons pe_bl (pa_cons pe_bl (pa_cons pe_int (pa_cons pe_int (pa_cons (pe_un un_neg pe_int) (pa_cons pe_int (pa_cons pe_int (pa_cons (pe_op op_pow pe_int pe_int)
        (pa_cons pe_str (pa_cons pe_str (pa_cons pe_str (pa_cons pe_str (pa_cons pe_str (pa_cons pe_str pa_nil)))))))))))))))))
      (pss_cons (ps_set (i := 1) scAny.nd rfl (Or.inl rfl) (pe_op op_cat (pv 1) (pe_lst (pa_cons pe_str (pa_cons pe_str (pa_cons pe_str pa_nil))))))
      (pss_cons (ps_set (i := 1) scAny.nd rfl (Or.inl rfl) (pe_op op_cat (pv 1) (pe_lst (pa_cons (pe_tup pa_nil) (pa_cons (pe_tup (pa_cons pe_str pa_nil)) (pa_cons (pe_lst (pa_cons pe_str pa_nil)) (pa_cons (pe_tup (pa_cons pe_str (pa_cons pe_str pa_nil)))
        (pa_cons (pe_tup (pa_cons (pe_tup (pa_cons pe_str pa_nil)) pa_nil)) (pa_cons (pe_lst pa_nil) (pa_cons pe_dnewK (pa_cons (pe_disp (pps_cons pe_str pe_str pps_nil) (by rfl) (by rfl) (fun z => by cases z) (by decide)) (pa_cons pe_str pa_nil))))))))))))
      (pss_cons (ps_set (i := 1) scAny.nd rfl (Or.inl rfl) (pe_op op_cat (pv 1) (pe_lst (pa_cons pe_str pa_nil))))
      (pss_one (ps_ret (pe_df C hr (pa_cons (pv 0) (pa_cons (pv 1) pa_nil)))))))), ?_⟩
    refine ⟨_, rfl, _, _, rfl, rfl, ⟨by decide, by decide, by decide⟩, (show 15 ≤ sizeLine by decide), fun p1 n1 => ?_⟩
    have z1 := Same.new (o := .lst any1) n1
    refine ⟨_, rfl, (show 3 ≤ sizeLine by decide), fun p2 n2 => ?_⟩
    have z2 := Same.new (o := .lst any2) n2
    refine ⟨p1, p2, any1, any2, rfl, rfl, z2 _ _ upd_same, upd_same, (show 18 ≤ sizeLine by decide), fun p3 n3 => ?_⟩
    have z3 := Same.new (o := .lst (any1 ++ any2)) n3
    refine ⟨_, rfl, (show 0 ≤ sizeLine by decide), fun t0 m0 => ?_⟩
    have y0 := Same.new (o := .tup []) m0
    refine ⟨(show 1 ≤ sizeLine by decide), fun t1 m1 => ?_⟩
    have y1 := Same.new (o := .tup [.str "a"]) m1
    refine ⟨(show 1 ≤ sizeLine by decide), fun t2 m2 => ?_⟩
    have y2 := Same.new (o := .lst [.str "a"]) m2
    refine ⟨(show 2 ≤ sizeLine by decide), fun t3 m3 => ?_⟩
    have y3 := Same.new (o := .tup [.str "a", .str "b"]) m3
    refine ⟨(show 1 ≤ sizeLine by decide), fun t4 m4 => ?_⟩
    have y4 := Same.new (o := .tup [.str "a"]) m4
    refine ⟨(show 1 ≤ sizeLine by decide), fun t5 m5 => ?_⟩
    have y5 := Same.new (o := .tup [.ref t4]) m5
    refine ⟨(show 0 ≤ sizeLine by decide), fun t6 m6 => ?_⟩
    have y6 := Same.new (o := .lst []) m6
    intro t7 m7
    have y7 := Same.new (o := .dK []) m7
    intro t8 m8
    refine ⟨upd_same, [(Sum.inr (Str.ofString "a"), .str "b")], rfl, (show 1 ≤ 15 by decide), ?_⟩
    rw [upd_upd]
    have y8 := Same.new (o := .dK (mergeK [] [((Sum.inr (Str.ofString "a") : Key), V.str "b")])) m8
    refine ⟨(show 9 ≤ sizeLine by decide), fun p4 n4 => ?_⟩
    have z4 := Same.new (o := .lst [.ref t0, .ref t1, .ref t2, .ref t3, .ref t5, .ref t6, .ref t7, .ref t8, .str "abcdefghijkl"]) n4
    have w8 := y8.trans z4
    have w7 := y7.trans w8
    have w6 := y6.trans w7
    have w5 := y5.trans w6
    have w4 := y4.trans w5
    have w3 := y3.trans w4
    have w2 := y2.trans w3
    have w1 := y1.trans w2
    have w0 := y0.trans w1
    refine ⟨p3, p4, any1 ++ any2, [.ref t0, .ref t1, .ref t2, .ref t3, .ref t5, .ref t6, .ref t7, .ref t8, .str "abcdefghijkl"], rfl, rfl, w0 _ _ upd_same, upd_same, (show 27 ≤ sizeLine by decide), fun p5 n5 => ?_⟩
    have z5 := Same.new (o := .lst ((any1 ++ any2) ++ [.ref t0, .ref t1, .ref t2, .ref t3, .ref t5, .ref t6, .ref t7, .ref t8, .str "abcdefghijkl"])) n5
    refine ⟨_, rfl, (show 1 ≤ sizeLine by decide), fun p6 n6 => ?_⟩
    have z6 := Same.new (o := .lst [.str "abcdefghijklm"]) n6
    refine ⟨p5, p6, _, [.str "abcdefghijklm"], rfl, rfl, z6 _ _ upd_same, upd_same, (show 28 ≤ sizeLine by decide), fun p7 n7 => ?_⟩
    have z7 := Same.new (o := .lst (((any1 ++ any2) ++ [.ref t0, .ref t1, .ref t2, .ref t3, .ref t5, .ref t6, .ref t7, .ref t8, .str "abcdefghijkl"]) ++ [.str "abcdefghijklm"])) n7
    have x4 := z5.trans (z6.trans z7)
    have all := (z1.trans z2).trans (z3.trans (w0.trans x4))
    refine ⟨_, rfl, _, rfl, wa, p7, _, rfl, hw.same all, .of upd_same, (by intro e; cases e), (show 28 ≤ 1000 by decide), fun v H' hv W' s' => q v H' (Any.sb (hw.same all) s' ?_) W' ((Sb.of all).trans s')⟩
    have hv : v ∈ [V.non, .bl true, .bl false, .int 0, .int 1, .int (-1), .int 1000000, .int 1000001, .int (10 ^ (59 : Int).toNat), .str "", .str "a", .str "A", .str "a b", .str "a1", .str "a\n", .str "/", .str "$", .str "*",
      .ref t0, .ref t1, .ref t2, .ref t3, .ref t5, .ref t6, .ref t7, .ref t8, .str "abcdefghijkl", .str "abcdefghijklm"] := hv
    simp only [List.mem_cons, List.not_mem_nil, or_false] at hv
    rcases hv with rfl | rfl | rfl | rfl | rfl | rfl | rfl | rfl | rfl | rfl | rfl | rfl | rfl | rfl | rfl | rfl | rfl | rfl | rfl | rfl | rfl | rfl | rfl | rfl | rfl | rfl | rfl | rfl
    · exact any_non
    · exact any_bl true
    · exact any_bl false
    · exact any_int _ (by decide +kernel)
    · exact any_int _ (by decide +kernel)
    · exact any_int _ (by decide +kernel)
    · exact any_int _ (by decide +kernel)
    · exact any_int _ (by decide +kernel)
    · exact any_int _ (by decide +kernel)
    · exact any_str _ (by decide +kernel)
    · exact any_str _ (by decide +kernel)
    · exact any_str _ (by decide +kernel)
    · exact any_str _ (by decide +kernel)
    · exact any_str _ (by decide +kernel)
    · exact any_str _ (by decide +kernel)
    · exact any_str _ (by decide +kernel)
    · exact any_str _ (by decide +kernel)
    · exact any_str _ (by decide +kernel)
    · exact Any.same (w1.trans x4) (any_tup (.of upd_same) .nil (by decide +kernel) (by decide +kernel) (by decide))
    · exact Any.same (w2.trans x4) (any_tup (.of upd_same) (.cons (.str "a") .nil) (by decide +kernel) (by decide +kernel) (show 1 ≤ 1000 by decide))
    · exact Any.same (w3.trans x4) (any_lst (.of upd_same) (.cons (.str "a") .nil) (by decide +kernel))
    · exact Any.same (w4.trans x4) (any_tup (.of upd_same) (.cons (.str "a") (.cons (.str "b") .nil)) (by decide +kernel) (by decide +kernel) (show 2 ≤ 1000 by decide))
    · exact Any.same (w6.trans x4) (any_tup (.of upd_same) (.cons (.tup (.of (y5 _ _ upd_same)) (.cons (.str "a") .nil)) .nil) (by decide +kernel) (by decide +kernel) (show 1 ≤ 1000 by decide))
    · exact Any.same (w7.trans x4) (any_lst (.of upd_same) .nil (by decide +kernel))
    · exact Any.same (w8.trans x4) (any_dct0 upd_same)
    · exact Any.same (z4.trans x4) (any_dct1 (x := Str.ofString "a") (y := Str.ofString "b") upd_same (by decide +kernel))
    · exact any_str _ (by decide +kernel)
    · exact any_str _ (by decide +kernel)
/-- a word of the law's menu -/
def Mw (z : Str) : Prop := z.length ≤ 12 ∧ ∀ c ∈ z.cps.toList, c < 128
theorem Mw.asc {z : Str} (h : Mw z) : Asc z := ⟨Nat.le_trans h.1 (by decide), h.2⟩
def spBent (K : PySem.W.Frag) : Sp := fun vs H Q _ => ∃ (wa a : Addr) (ws : List Str), vs = [.ref wa, .ref a] ∧ Well H wa ∧ SqT K H a (ws.map V.str) ∧ (∀ z ∈ ws, Mw z) ∧ ws.length ≤ 10 ∧ ∀ v H', Good K H' v → Well H' wa → Sb wa H H' → Q v H'
theorem scBent : FnScope ["_law_well_here", "_law_thing", "_law_at", "_law_way"] ["_law_well_here", "_law_thing"] (defScope sBent) := ⟨rfl, rfl, rfl, by decide +kernel, rfl, by decide +kernel, by decide +kernel⟩
theorem cut_lo (ws : List Str) (k : Nat) : cutV (ws.map V.str) none (some (k : Int)) = (ws.take k).map V.str := by
  unfold cutV
  rw [HT.sIx_none, HT.sIx_nat, List.drop_zero, Nat.sub_zero, List.length_map, ← List.map_take]
  by_cases h : k ≤ ws.length
  · rw [Nat.min_eq_left h]
  · rw [Nat.min_eq_right (by omega), List.take_of_length_le (Nat.le_refl _), List.take_of_length_le (by omega)]
theorem cut_hi (ws : List Str) (k : Nat) : cutV (ws.map V.str) (some (k : Int)) none = (ws.drop k).map V.str := by
  unfold cutV
  rw [HT.sIx_none, HT.sIx_nat, List.length_map]
  by_cases h : k ≤ ws.length
  · rw [Nat.min_eq_left h, ← List.map_drop, List.take_of_length_le (by simp)]
  · rw [Nat.min_eq_right (by omega), ← List.map_drop, List.drop_of_length_le (Nat.le_refl _), List.drop_of_length_le (by omega)]
    simp
theorem good_strs {H : Hp} {a : Addr} {ws : List Str} (h : SqT K H a (ws.map V.str)) (hw : ∀ z ∈ ws, Asc z) (hn : ws.length ≤ 1000) : Good K H (.ref a) :=
  ⟨_, .lf (.dat (.tup h (dp_strs ws))), fits_tuple (parts_strs hw) (by simpa using hn), small_tuple (parts_strs hw) (by simpa using hn)⟩
theorem good_list {H : Hp} {a : Addr} {ws : List Str} (h : SqL K H a (ws.map V.str)) (hw : ∀ z ∈ ws, Asc z) (hn : ws.length ≤ 1000) : Good K H (.ref a) :=
  ⟨_, .lf (.dat (.lst h (dp_strs ws))), fits_list, small_list (parts_strs hw) (by simpa using hn)⟩
theorem good_mix {H : Hp} {a : Addr} {ws us : List Str} {v : V} (h : SqT K H a (ws.map V.str ++ v :: us.map V.str)) (hv : Any K H v) (hw : ∀ z ∈ ws, Asc z) (hu : ∀ z ∈ us, Asc z) (hn : ws.length + us.length ≤ 900) : Good K H (.ref a) := by
  obtain ⟨d, h1, h2, h3⟩ := hv
  have parts : ∀ e ∈ ws.map PyData.str ++ d :: us.map PyData.str, Part e := fun e he => by
    rcases List.mem_append.mp he with g | g
    · exact parts_strs hw e g
    · rcases List.mem_cons.mp g with g | g
      · rw [g]
        exact h2
      · exact parts_strs hu e g
  have len : (ws.map PyData.str ++ d :: us.map PyData.str).length ≤ 1000 := by
    simp
    omega
  exact ⟨_, .tup h h1, fits_tuple parts len, small_tuple parts len⟩
theorem ok_bent (Fd : Fun K "_law_bent" "_law_bent" sBent f fd) (T : Tx mg) (D : Df P w K mg base 1 "_law_draw" ["_law_well_here", "_law_many"] spDraw) (A : Df P w K mg base 3 "_law_any" ["_law_well_here"] (spAny K)) :
    FnOk P w K mg base CX0 4 f fd ["_law_well_here", "_law_thing"] (spBent K) := by
  refine Fd.ok scBent (fun vs H Q E h => ?_) (fun cdv A0 outer s H vs Q E hr h => ?_)
  · obtain ⟨wa, a, ws, rfl, _⟩ := h
    rfl
  · obtain ⟨wa, a, ws, rfl, hw, hS, hm, hn, q⟩ := h
    refine ⟨_, pss_cons (ps_par (i := 2) (j := 3) (by rfl) scBent.nd rfl rfl (by decide) rfl rfl (pa_cons (pe_df D hr (pa_cons (pv 0) (pa_cons (pe_op op_add (pe_callB call_len_seq (by rfl) T.len PySem.boot_len (pa_cons (pv 1) pa_nil)) pe_int) pa_nil)))
        (pa_cons (pe_df D hr (pa_cons (pv 0) (pa_cons pe_int pa_nil))) pa_nil)) (by rfl))
      (pss_cons (ps_if (pt_cmpR op_eq (pv 3) pe_int (nomark _)) (pss_one (ps_ret (pe_callTy call_list_of (by rfl) T.list (by decide +kernel) (pa_cons (pv 1) pa_nil)))) pss_nil)
      (pss_cons (ps_if (pt_cmpR op_eq (pv 3) pe_int (nomark _)) (pss_one (ps_ret (pe_op op_catW (pe_slice sl_tupW (pv 1) po_none (po_some (pv 2))) (pe_slice sl_tupW (pv 1) (po_some (pe_op op_add (pv 2) pe_int)) po_none)))) pss_nil)
      (pss_one (ps_ret (pe_op op_catW (pe_op op_catW (pe_slice sl_tupW (pv 1) po_none (po_some (pv 2))) (pe_tup (pa_cons (pe_df A hr (pa_cons (pv 0) pa_nil)) pa_nil))) (pe_slice sl_tupW (pv 1) (po_some (pe_op op_sub (pe_op op_add (pv 2) (pv 3)) pe_int)) po_none)))))), ?_⟩
    refine ⟨_, rfl, _, rfl, a, _, rfl, .inr hS, _, _, rfl, rfl, wa, _, rfl, hw, by omega, by rw [List.length_map]; omega, fun k1 H1 a1 b1 W1 s1 => ?_⟩
    refine ⟨_, rfl, wa, 5, rfl, W1, by decide, by decide, fun k2 H2 a2 b2 W2 s2 => ⟨_, _, rfl, ?_⟩⟩
    obtain ⟨n, rfl⟩ := Int.eq_ofNat_of_zero_le a1
    obtain ⟨m, rfl⟩ := Int.eq_ofNat_of_zero_le a2
    have s12 := s1.trans s2
    have hS2 := seqT hw s12 hS
    have hasc : ∀ z ∈ ws, Asc z := fun z hz => (hm z hz).asc
    have htake : ∀ k, ∀ z ∈ ws.take k, Asc z := fun k z hz => hasc z (List.mem_of_mem_take hz)
    have hdrop : ∀ k, ∀ z ∈ ws.drop k, Asc z := fun k z hz => hasc z (List.mem_of_mem_drop hz)
    refine ⟨_, rfl, rfl, _, rfl, ?_⟩
    refine ite2 (fun _ => ?_) (fun h0 => ?_)
    · refine ⟨_, rfl, a, _, rfl, .inr hS2, fun l hl => ?_⟩
      have z := Same.new (o := .lst (ws.map V.str)) hl
      exact q _ _ (good_list (.of upd_same) hasc (by omega)) (W2.same z) (s12.trans (.of z))
    · have h0 : m ≠ 0 := fun e => h0 (by subst e; exact decide_eq_true rfl)
      refine ⟨_, rfl, rfl, _, rfl, ?_⟩
      refine ite2 (fun _ => ?_) (fun h1 => ?_)
      · refine ⟨_, rfl, _, rfl, _, rfl, a, _, rfl, hS2, fun r1 G1 z1 q1 => ?_⟩
        rw [cut_lo] at q1
        refine ⟨_, rfl, _, rfl, _, _, rfl, rfl, _, rfl, a, _, rfl, same_T z1 hS2, fun r2 G2 z2 q2 => ?_⟩
        rw [show ((n : Int) + 1) = ((n + 1 : Nat) : Int) from by omega, cut_hi] at q2
        refine ⟨r1, r2, _, _, rfl, rfl, same_T z2 q1, q2, ?_, fun r3 G3 z3 q3 => ?_⟩
        · rw [List.length_map, List.length_map, sizeLine_eq]
          simp only [List.length_take, List.length_drop]
          omega
        · rw [← List.map_append] at q3
          have z := z1.trans (z2.trans z3)
          refine q _ _ (good_strs q3 (fun y hy => ?_) ?_) (W2.same z) (s12.trans (.of z))
          · rcases List.mem_append.mp hy with g | g
            · exact htake _ y g
            · exact hdrop _ y g
          · simp only [List.length_append, List.length_take, List.length_drop]
            omega
      · have h1 : m ≠ 1 := fun e => h1 (by subst e; exact decide_eq_true rfl)
        refine ⟨_, rfl, _, rfl, _, rfl, a, _, rfl, hS2, fun r1 G1 z1 q1 => ?_⟩
        rw [cut_lo] at q1
        refine ⟨_, rfl, wa, rfl, W2.same z1, fun v G2 hv W3 s3 => ⟨(show 1 ≤ sizeLine by decide), fun p hp => ?_⟩⟩
        have zp := Same.new (o := .tup [v]) hp
        have q1b := same_T zp (seqT (W2.same z1) s3 q1)
        have hS3 := same_T zp (seqT (W2.same z1) s3 (same_T z1 hS2))
        refine ⟨r1, p, _, [v], rfl, rfl, q1b, .of upd_same, ?_, fun r2 G3 z3 q3 => ?_⟩
        · rw [List.length_map, sizeLine_eq]
          simp only [List.length_take, List.length_cons, List.length_nil]
          omega
        · refine ⟨_, rfl, _, rfl, _, rfl, _, _, rfl, rfl, _, _, rfl, rfl, _, rfl, a, _, rfl, same_T z3 hS3, fun r3 G4 z4 q4 => ?_⟩
          rw [show ((n : Int) + (m : Int) - 2) = ((n + m - 2 : Nat) : Int) from by omega, cut_hi] at q4
          refine ⟨r2, r3, _, _, rfl, rfl, same_T z4 q3, q4, ?_, fun r4 G5 z5 q5 => ?_⟩
          · rw [sizeLine_eq]
            simp only [List.length_append, List.length_map, List.length_take, List.length_drop, List.length_cons, List.length_nil]
            omega
          · have z := zp.trans (z3.trans (z4.trans z5))
            refine q _ _ (good_mix (ws := ws.take n) (us := ws.drop (n + m - 2)) (v := v) ?_ (hv.same z) (htake _) (hdrop _) ?_) (W3.same z) (s12.trans ((Sb.of z1).trans (s3.trans (.of z))))
            · rw [List.append_assoc] at q5
              exact q5
            · simp only [List.length_take, List.length_drop]
              omega
end
end K1
namespace K1
open PySem L2 Ld
abbrev sLaw : Stmt := top 17
def lawN : List Str := ["_law_script", "_law_start", "_law_well_here", "_law_turn", "_law_menu", "_law_words", "_law_some", "_law_sign", "_law_place", "_law_thing"]
theorem scLaw : FnScope lawN ["_law_script"] (defScope sLaw) := ⟨rfl, rfl, rfl, by decide +kernel, rfl, by decide +kernel, by decide +kernel⟩
def menu : List Str := ["a", "z", "toto", "abcdefghijkl"]
def mwB (z : Str) : Bool := decide (z.length ≤ 12) && z.cps.toList.all (fun c => decide (c < 128))
theorem mw_of {z : Str} (h : mwB z = true) : Mw z := by
  simp only [mwB, Bool.and_eq_true, decide_eq_true_eq, List.all_eq_true] at h
  exact h
theorem menu_ok : ∀ z ∈ menu, Mw z := fun z hz => mw_of (List.all_eq_true.mp (show menu.all mwB = true by decide +kernel) z hz)
def lettersS : Str := Str.ofString "abcdefghijklmnopqrstuvwxyz"
def othersS : Str := Str.ofString " !\"#$&'()*+,-./0123456789:;<=>?@ABCDEFGHIJKLMNOPQRSTUVWXYZ[\\]^_`~\n\t{|}"
def one (c : Nat) : Str := ⟨#[c]⟩
def goodSign (c : Nat) : Bool := wordS (one c) && wordS (Str.ofString "abcdefghijk" ++ one c) && wordS (Str.ofString "b" ++ one c) && ascB (one c) && ascB (Str.ofString "abcdefghijk" ++ one c) && ascB (Str.ofString "b" ++ one c)
theorem letters_ok : lettersS.cps.toList.all goodSign = true := by decide +kernel
def badSign (c : Nat) : Bool := !wordS (one c) && !wordS (Str.ofString "a" ++ one c) && !wordS (Str.ofString "abc" ++ one c ++ Str.ofString "efgh") && !wordS (Str.ofString "abcdefghijk" ++ one c) && !wordS (Str.ofString "b" ++ one c) &&
  (ascB (one c) && ascB (Str.ofString "a" ++ one c) && ascB (Str.ofString "abc" ++ one c ++ Str.ofString "efgh") && ascB (Str.ofString "abcdefghijk" ++ one c) && ascB (Str.ofString "b" ++ one c))
theorem others_ok : othersS.cps.toList.all badSign = true := by decide +kernel
section
variable {P : Program} {w : World} {K : PySem.W.Frag} {mg : Str → Option Value} {base : Heap} {f : Addr} {fd : FuncData}
def spLaw (K : PySem.W.Frag) : Sp := fun vs H Q _ => ∃ (a : Addr) (ns : List Int), vs = [.ref a] ∧ SqL K H a (ns.map V.int) ∧ ns.length ≤ 63 ∧ (∀ z ∈ ns, Builtin.Int.intBits z ≤ 1048576) ∧ ∀ H', Q (.bl true) H'
/-- what the law calls -/
structure Calls (P : Program) (w : World) (K : PySem.W.Frag) (mg : Str → Option Value) (base : Heap) : Prop where
  well : Df P w K mg base 1 "_law_well" ["_law_script", "_law_start"] (spWell K)
  draw : Df P w K mg base 1 "_law_draw" ["_law_well_here", "_law_many"] spDraw
  choose : Df P w K mg base 2 "_law_choose" ["_law_well_here", "_law_things"] (spChoose K)
  any : Df P w K mg base 3 "_law_any" ["_law_well_here"] (spAny K)
  bent : Df P w K mg base 4 "_law_bent" ["_law_well_here", "_law_thing"] (spBent K)
  told : DfG P w K mg base 3 "_law_told" ["_law_thing"] (spTold K)
  word : Df P w K mg base 1 "is_word" ["value"] (spWord K)
  addr : Df P w K mg base 2 "is_address" ["value"] (spAddr K)
theorem ths {H : Hp} (z : Str) : Th K H (.str z) (.str z) := .lf (.dat (.str z))
theorem fits_str {z : Str} (h : ascB z = true) : FitS (.str z) := fun y e => by
  cases e
  exact asc_of h
theorem add_len {x y : Str} (h : ascB (x ++ y) = true) : x.length + y.length ≤ sizeLine := by
  have z := (asc_of h).size
  rw [PySem.strLen_append] at z
  exact z
theorem add_len2 {x z y : Str} (h : ascB (x ++ z ++ y) = true) : x.length + z.length ≤ sizeLine := by
  have q := (asc_of h).size
  rw [PySem.strLen_append, PySem.strLen_append] at q
  omega
theorem fits2 {x y : Str} (h1 : ascB x = true) (h2 : ascB y = true) : Fits (.tuple [.str x, .str y]) := fits_tuple (fun d hd => by
  simp only [List.mem_cons, List.not_mem_nil, or_false] at hd
  rcases hd with rfl | rfl
  · exact part_str (asc_of h1)
  · exact part_str (asc_of h2)) (show 2 ≤ 1000 by decide)
theorem fits1 {x : Str} (h1 : ascB x = true) : Fits (.tuple [.str x]) := fits_tuple (fun d hd => by
  rw [List.mem_singleton.mp hd]
  exact part_str (asc_of h1)) (show 1 ≤ 1000 by decide)
theorem rep_mem {n : Nat} {d : PyData} (h : d ∈ (List.replicate n (Str.ofString "a")).map PyData.str) : d = .str (Str.ofString "a") := by
  obtain ⟨x, hx, rfl⟩ := List.mem_map.mp h
  rw [(List.mem_replicate.mp hx).2]
theorem rep_fit (n : Nat) : ∀ d ∈ (List.replicate n (Str.ofString "a")).map PyData.str, FitS d := fun d hd => by
  rw [rep_mem hd]
  exact fits_str (by decide +kernel)
theorem rep_all (n : Nat) : addrD (.tuple ((List.replicate n (Str.ofString "a")).map PyData.str)) = true := List.all_eq_true.mpr fun d hd => by
  rw [rep_mem hd]
  show wordS (Str.ofString "a") = true
  decide +kernel
theorem ok_law (Fd : Fun K "law" "law" sLaw f fd) (T : Tx mg) (C : Calls P w K mg base) : FnG P w K mg base 5 f fd ["_law_script"] (spLaw K) := by
  refine Fun.okG Fd scLaw (fun vs H Q E h => ?_) (fun cdv A0 outer s H vs Q E hG hr h => ?_)
  · obtain ⟨a, ns, rfl, _⟩ := h
    rfl
  · obtain ⟨a, ns, rfl, hS, hlen, hb, q⟩ := h
    have nd := scLaw.nd
    refine ⟨_, pss_cons (ps_for PassesOwn.never rfl (pi_range1 rfl T.range (pa_cons (pe_callB (call_max2 rfl) (by rfl) T.max (by decide +kernel) (pa_cons pe_int (pa_cons (pe_callB (call_min2 rfl) (by rfl) T.min (by decide +kernel)
          (pa_cons pe_int (pa_cons (pe_callB call_len_seq (by rfl) T.len PySem.boot_len (pa_cons (pv 0) pa_nil)) pa_nil))) pa_nil))) pa_nil)) (pg_name (i := 1) nd rfl (Or.inl rfl))
        (pss_cons (ps_set (i := 2) nd rfl (Or.inr rfl) (pe_df C.well hr (pa_cons (pv 0) (pa_cons (pv 1) pa_nil))))
        (pss_one (ps_for PassesOwn.never rfl (pi_range1 rfl T.range (pa_cons pe_int pa_nil)) (pg_name (i := 3) nd rfl (Or.inl rfl))
          (pss_cons (ps_set (i := 4) nd rfl (Or.inr rfl) (pe_lst (pa_cons pe_str (pa_cons pe_str (pa_cons pe_str (pa_cons pe_str pa_nil))))))
          (pss_cons (ps_set (i := 5) nd rfl (Or.inl rfl) (pe_callTy call_tuple_of (by rfl) T.tuple (by decide +kernel) (pa_cons (pe_lc (own := [("_law_place", 8)]) (g := gName 8) (tt := tYes) (by rfl) nd
              (pi_range1 rfl T.range (pa_cons (pe_df C.draw hr (pa_cons (pv 2) (pa_cons pe_int pa_nil))) pa_nil)) (blkOk_by (own := [("_law_place", 8)]) (N := lawN) (sc := defScope sLaw) (by decide +kernel))
              (fun _ _ _ _ _ => pg_name (i := 8) nd rfl (Or.inl rfl)) (fun _ _ _ _ _ => pts_nil) (fun _ _ _ _ _ => pe_df C.choose hr (pa_cons (pv 2) (pa_cons (pv 4) pa_nil)))) pa_nil)))
          (pss_cons (ps_set (i := 6) nd rfl (Or.inl rfl) (pe_lst (pa_cons (pv 5) (pa_cons (pe_df C.bent hr (pa_cons (pv 2) (pa_cons (pv 5) pa_nil))) (pa_cons (pe_df C.bent hr (pa_cons (pv 2) (pa_cons (pv 5) pa_nil))) (pa_cons (pe_df C.any hr (pa_cons (pv 2) pa_nil)) pa_nil))))))
          (pss_cons (ps_set (i := 6) nd rfl (Or.inl rfl) (pe_op op_cat (pv 6) (pe_lst (pa_cons (pe_df C.any hr (pa_cons (pv 2) pa_nil)) pa_nil))))
          (pss_cons (ps_set (i := 6) nd rfl (Or.inl rfl) (pe_op op_cat (pv 6) (pe_lst (pa_cons (pe_op op_sub (pe_df C.draw hr (pa_cons (pv 2) (pa_cons pe_int pa_nil))) pe_int)
              (pa_cons (pe_join pe_str (pe_callTy call_list_of (by rfl) T.list (by decide +kernel) (pa_cons (pv 5) pa_nil))) (pa_cons (pe_callTy call_list_of (by rfl) T.list (by decide +kernel) (pa_cons (pv 5) pa_nil)) pa_nil))))))
          (pss_one (ps_if (pt_cmpR (op_neD hr.units) (pe_lc (own := [("_law_thing", 9)]) (g := gName 9) (by rfl) nd (pi_list (pv 6)) (blkOk_by (own := [("_law_thing", 9)]) (N := lawN) (sc := defScope sLaw) (by decide +kernel))
              (fun _ _ _ _ _ => pg_name (i := 9) nd rfl (Or.inl rfl)) (fun _ _ _ _ _ => pts_one (pt_not (pt_val (pe_dfG C.told hG hr (pa_cons (pv 9) pa_nil))))) (fun _ _ _ _ _ => pv 9)) (pe_lst pa_nil) (nomark _))
            (pss_one (ps_ret pe_bl)) pss_nil)))))))))))
      (pss_cons (ps_for PassesOwn.never rfl (pi_str pe_str) (pg_name (i := 7) nd rfl (Or.inl rfl))
        (pss_one (ps_if (PW.pt (pw_or (pt_not (pt_val (pe_df C.word hr (pa_cons (pv 7) pa_nil)))) (pw_or (pt_not (pt_val (pe_df C.word hr (pa_cons (pe_op op_add_str pe_str (pv 7)) pa_nil))))
            (pw_or1 (pt_not (pt_val (pe_df C.addr hr (pa_cons (pe_tup (pa_cons (pv 7) (pa_cons (pe_op op_add_str pe_str (pv 7)) pa_nil))) pa_nil)))))))) (pss_one (ps_ret pe_bl)) pss_nil)))
      (pss_cons (ps_for PassesOwn.never rfl (pi_str pe_str) (pg_name (i := 7) nd rfl (Or.inl rfl))
        (pss_cons (ps_if (PW.pt (pw_or (pt_val (pe_df C.word hr (pa_cons (pv 7) pa_nil))) (pw_or (pt_val (pe_df C.word hr (pa_cons (pe_op op_add_str pe_str (pv 7)) pa_nil)))
            (pw_or (pt_val (pe_df C.word hr (pa_cons (pe_op op_add_str (pe_op op_add_str pe_str (pv 7)) pe_str) pa_nil))) (pw_or1 (pt_val (pe_df C.word hr (pa_cons (pe_op op_add_str pe_str (pv 7)) pa_nil)))))))) (pss_one (ps_ret pe_bl)) pss_nil)
        (pss_one (ps_if (PW.pt (pw_or (pt_val (pe_df C.addr hr (pa_cons (pe_tup (pa_cons pe_str (pa_cons (pe_op op_add_str pe_str (pv 7)) pa_nil))) pa_nil))) (pw_or1 (pt_val (pe_df C.addr hr (pa_cons (pe_tup (pa_cons (pv 7) pa_nil)) pa_nil)))))) (pss_one (ps_ret pe_bl)) pss_nil))))
      (pss_one (ps_ret (pe_and (pe_df C.addr hr (pa_cons (pe_op op_repL (pe_tup (pa_cons pe_str pa_nil)) pe_int) pa_nil)) (pe_one (pe_not (pe_df C.addr hr (pa_cons (pe_op op_catW (pe_op op_repL (pe_tup (pa_cons pe_str pa_nil)) pe_int) (pe_tup (pa_cons pe_int pa_nil))) pa_nil)))))))
      )), ?_⟩
    have fin : ∀ i : Int, 0 ≤ i → True := fun _ _ => trivial
    have rangeN : ∃ N : Nat, (if (if (((ns.map V.int).length : Nat) : Int) < 5 then (((ns.map V.int).length : Nat) : Int) else 5) > 2 then (if (((ns.map V.int).length : Nat) : Int) < 5 then (((ns.map V.int).length : Nat) : Int) else 5) else 2) = (N : Int) ∧ N ≤ 5 := by
      generalize (ns.map V.int).length = l
      by_cases h1 : (l : Int) < 5
      · rw [if_pos h1]
        by_cases h2 : (l : Int) > 2
        · exact ⟨l, if_pos h2, by omega⟩
        · exact ⟨2, if_neg h2, by decide⟩
      · rw [if_neg h1]
        exact ⟨5, rfl, by decide⟩
    obtain ⟨N, eN, hN⟩ := rangeN
    refine ⟨_, rfl, a, _, rfl, .inl hS, _, _, rfl, _, _, rfl, (N : Int), by rw [eN], by omega, by omega, for_range (lo := 0) (n := (N : Int).toNat) (fun i σ G => Same H G ∧ ∃ u1 u2 u3 u4 u5 u6, σ = [some (.ref a), u1, u2, u3, u4, u5, u6, none, none, none]) ⟨Same.refl H, none, none, none, none, none, none, rfl⟩ ?_ ?_⟩
    · rintro j σ G hj ⟨sG, u1, u2, u3, u4, u5, u6, rfl⟩
      refine ⟨_, rfl, _, rfl, a, ns, _, 1048576, rfl, sG.seq hS, hlen, by decide, by decide, hb, by omega, by omega, fun wa G1 nwa W1 s1 => ?_⟩
      have nH : H wa = none := sG.free nwa
      have up : ∀ {G2 G3 : Hp}, Same H G2 → Sb wa G2 G3 → Same H G3 := fun {G2 G3} x y b o e => y b o (ne_of_none e nH) (x b o e)
      refine ⟨8, rfl, by decide, by decide, for_range (lo := 0) (n := 8) (fun i σ G2 => Same H G2 ∧ Well G2 wa ∧ ∃ v1 v3 v4 v5 v6, σ = [some (.ref a), v1, some (.ref wa), v3, v4, v5, v6, none, none, none]) ⟨sG.trans s1, W1, _, _, _, _, _, rfl⟩ ?_ ?_⟩
      · rintro i σ G2 hi ⟨sH, W2, v1, v3, v4, v5, v6, rfl⟩
        -- the menu
        refine ⟨(show 4 ≤ sizeLine by decide), fun pm npm => ?_⟩
        have zm := Same.new (o := .lst (menu.map V.str)) npm
        have hM : SqL K (upd G2 pm (.lst (menu.map V.str))) pm (menu.map V.str) := .of upd_same
        generalize hG3 : upd G2 pm (.lst (menu.map V.str)) = G3 at zm hM
        have eG3 : upd G2 pm (.lst [V.str "a", V.str "z", V.str "toto", V.str "abcdefghijkl"]) = G3 := hG3
        rw [eG3]
        have W3 := W2.same zm
        refine ⟨_, rfl, wa, 6, rfl, W3, by decide, by decide, fun k G4 k0 k1 W4 s4 => ⟨k, rfl, by omega, by omega, fun D hD => ?_⟩⟩
        have hM4 := seqL W3 s4 hM
        refine lc_range (lo := 0) (n := k.toNat) (fun i G => Sb wa G4 G ∧ Well G wa ∧ ∃ ws : List Str, G D = some (.lst (ws.map V.str)) ∧ (∀ z ∈ ws, Mw z) ∧ ws.length ≤ i) ⟨.of (Ld.Same.new hD), W4.same (Ld.Same.new hD), [], upd_same, (fun z hz => nomatch hz), Nat.le_refl _⟩ ?_ ?_
        · rintro e G hk ⟨sG4, WG, ws, hDl, hws, hwl⟩
          refine ⟨rfl, ?_⟩
          show tDf (spChoose K) (tCons (tVar 2) (tCons (tVar 4) tNil)) _ _ _
          refine ⟨_, rfl, _, rfl, wa, pm, _, rfl, WG, seqL W4 sG4 hM4, by decide, (show 4 ≤ 1000 by decide), fun v G' hv W' s' => ?_⟩
          obtain ⟨z, hz, rfl⟩ := List.mem_map.mp hv
          have neD := WG.lst hDl
          have hD' := s' D _ neD hDl
          have hn : ws.length ≤ 5 := by omega
          refine ⟨_, hD', by rw [List.length_map]; exact Nat.lt_of_le_of_lt hn (by decide), fun b o nb eb => ?_, ?_, ws ++ [z], ?_, fun y hy => ?_, by simp; omega⟩
          · rw [upd_ne (ne_of_none eb hD)]
            exact s' b o nb (sG4 b o nb eb)
          · obtain ⟨d, m, h1, h2⟩ := W'
            exact ⟨d, m, by rw [upd_ne neD.symm]; exact h1, h2⟩
          · rw [upd_same, List.map_append]
            rfl
          · rcases List.mem_append.mp hy with g | g
            · exact hws y g
            · rw [List.mem_singleton.mp g]
              exact menu_ok z hz
        · rintro G ⟨sG4, WG, ws, hDl, hws, hwl⟩
          have hwl5 : ws.length ≤ 5 := by omega
          have sHG : Same H G := up (sH.trans zm) (s4.trans sG4)
          refine ⟨D, _, rfl, .inl ⟨.of hDl, fun t nt => ?_⟩⟩
          have zt := Same.new (o := .tup (ws.map V.str)) nt
          have hT0 : SqT K (upd G t (.tup (ws.map V.str))) t (ws.map V.str) := .of upd_same
          generalize upd G t (.tup (ws.map V.str)) = G5 at zt hT0
          have W5 := WG.same zt
          have good0 : ∀ {G6 : Hp}, SqT K G6 t (ws.map V.str) → Good K G6 (.ref t) := fun h => good_strs h (fun z hz => (hws z hz).asc) (by omega)
          -- the list of things
          refine ⟨_, rfl, _, rfl, _, rfl, wa, t, ws, rfl, W5, hT0, hws, by omega, fun v1' G6 g6 W6 s6 => ?_⟩
          have hT6 := seqT W5 s6 hT0
          refine ⟨_, rfl, _, rfl, wa, t, ws, rfl, W6, hT6, hws, by omega, fun v2' G7 g7 W7 s7 => ?_⟩
          have hT7 := seqT W6 s7 hT6
          refine ⟨_, rfl, wa, rfl, W7, fun v3' G8 g8 W8 s8 => ⟨(show 4 ≤ sizeLine by decide), fun p1 n1 => ?_⟩⟩
          have hT8 := seqT W7 s8 hT7
          have l1 : ∀ x ∈ [V.ref t, v1', v2', v3'], Good K G8 x := fun x hx => by
            simp only [List.mem_cons, List.not_mem_nil, or_false] at hx
            rcases hx with rfl | rfl | rfl | rfl
            · exact good0 hT8
            · exact (g6.sb W6 s7).sb W7 s8
            · exact g7.sb W7 s8
            · exact g8.good
          have z1 := Same.new (o := .lst [V.ref t, v1', v2', v3']) n1
          have W9 := W8.same z1
          have h9 : (upd G8 p1 (.lst [V.ref t, v1', v2', v3'])) p1 = some (.lst [V.ref t, v1', v2', v3']) := upd_same
          generalize upd G8 p1 (.lst [V.ref t, v1', v2', v3']) = G9 at z1 W9 h9
          refine ⟨_, rfl, _, rfl, wa, rfl, W9, fun v4' G10 g10 W10 s10 => ⟨(show 1 ≤ sizeLine by decide), fun p2 n2 => ?_⟩⟩
          have z2 := Same.new (o := .lst [v4']) n2
          have h10 := z2 _ _ (s10 _ _ (W9.lst h9) h9)
          have h10b : (upd G10 p2 (.lst [v4'])) p2 = some (.lst [v4']) := upd_same
          generalize upd G10 p2 (.lst [v4']) = G11 at z2 h10 h10b
          refine ⟨p1, p2, _, _, rfl, rfl, h10, h10b, (show 5 ≤ sizeLine by decide), fun p3 n3 => ?_⟩
          have z3 := Same.new (o := .lst ([V.ref t, v1', v2', v3'] ++ [v4'])) n3
          have h11 : (upd G11 p3 (.lst ([V.ref t, v1', v2', v3'] ++ [v4']))) p3 = some (.lst ([V.ref t, v1', v2', v3'] ++ [v4'])) := upd_same
          have W11 := W10.same (z2.trans z3)
          have l2 : ∀ x ∈ [V.ref t, v1', v2', v3'] ++ [v4'], Good K (upd G11 p3 (.lst ([V.ref t, v1', v2', v3'] ++ [v4']))) x := fun x hx => by
            rcases List.mem_append.mp hx with g | g
            · exact (((l1 x g).same z1).sb W9 s10).same (z2.trans z3)
            · rw [List.mem_singleton.mp g]
              exact g10.good.same (z2.trans z3)
          have hT11 := same_T (z2.trans z3) (seqT W9 s10 (same_T z1 hT8))
          have a11 : Sb wa G5 (upd G11 p3 (.lst ([V.ref t, v1', v2', v3'] ++ [v4']))) := s6.trans (s7.trans (s8.trans ((Sb.of z1).trans (s10.trans (.of (z2.trans z3))))))
          generalize upd G11 p3 (.lst ([V.ref t, v1', v2', v3'] ++ [v4'])) = G12 at z3 h11 W11 l2 hT11 a11
          refine ⟨_, rfl, _, rfl, wa, 1000003, rfl, W11, by decide, by decide, fun k2 G13 c0 c1 W13 s13 => ⟨_, _, rfl, rfl, ?_⟩⟩
          have hT13 := seqT W11 s13 hT11
          have h13 := s13 _ _ (W11.lst h11) h11
          refine ⟨⟨_, rfl⟩, _, rfl, t, _, rfl, .inr hT13, fun l nl => ?_⟩
          have z4 := Same.new (o := .lst (ws.map V.str)) nl
          have hw12 : (ws.map (·.length)).sum ≤ 12 * ws.length := sum_le fun z hz => (hws z hz).1
          obtain ⟨j1, j2⟩ := join_asc ws fun z hz => (hws z hz).2
          refine ⟨_, l, ws, rfl, rfl, .inl (.of upd_same), ?_, _, rfl, t, _, rfl, .inr (same_T z4 hT13), fun l' nl' => ?_⟩
          · have e0 : (Str.ofString "").length = 0 := by decide +kernel
            show (ws.map (·.length)).sum + ws.length * (Str.ofString "").length ≤ 16777216
            rw [e0]
            omega
          have z5 := Same.new (o := .lst (ws.map V.str)) nl'
          have hL' : SqL K (upd (upd G13 l (.lst (ws.map V.str))) l' (.lst (ws.map V.str))) l' (ws.map V.str) := .of upd_same
          have z45 := z4.trans z5
          generalize upd (upd G13 l (.lst (ws.map V.str))) l' (.lst (ws.map V.str)) = G14 at z5 hL' z45
          refine ⟨(show 3 ≤ sizeLine by decide), fun p4 n4 => ?_⟩
          generalize hJ : Txt.join (Str.ofString "") ws = J
          have hJa : Asc J := by
            rw [← hJ, join_is]
            exact ⟨by rw [j1]; omega, j2⟩
          have z6 := Same.new (o := .lst [V.int (k2 - 1), .str J, .ref l']) n4
          refine ⟨p3, p4, _, [V.int (k2 - 1), .str J, .ref l'], rfl, rfl, z6 _ _ (z45 _ _ h13), ?_, (show 8 ≤ sizeLine by decide), fun p5 n5 => ?_⟩
          · rw [← hJ]
            exact upd_same
          have l3 : ∀ x ∈ ([V.ref t, v1', v2', v3'] ++ [v4']) ++ [V.int (k2 - 1), .str J, .ref l'], Good K (upd G14 p4 (.lst [V.int (k2 - 1), .str J, .ref l'])) x := fun x hx => by
            rcases List.mem_append.mp hx with g | g
            · exact (((l2 x g).sb W11 s13).same z45).same z6
            · simp only [List.mem_cons, List.not_mem_nil, or_false] at g
              rcases g with rfl | rfl | rfl
              · exact good_int _ (by omega)
              · exact Any.good ⟨_, .dat (.str J), part_str hJa, (part_str hJa).fits (fun _ e => by cases e)⟩
              · exact Good.same z6 (good_list hL' (fun z hz => (hws z hz).asc) (by omega))
          have a16 : Sb wa G5 (upd G14 p4 (.lst [V.int (k2 - 1), .str J, .ref l'])) := a11.trans (s13.trans (.of (z45.trans z6)))
          have W16 := W13.same (z45.trans z6)
          have n5 : (upd G14 p4 (.lst [V.int (k2 - 1), .str J, .ref l'])) p5 = none := n5
          obtain ⟨L, hL⟩ : ∃ L, L = ([V.ref t, v1', v2', v3'] ++ [v4']) ++ [V.int (k2 - 1), .str J, .ref l'] := ⟨_, rfl⟩
          rw [← hL] at l3
          have z7 := Same.new (o := .lst L) n5
          have hL5 : (upd (upd G14 p4 (.lst [V.int (k2 - 1), .str J, .ref l'])) p5 (.lst L)) p5 = some (.lst L) := upd_same
          obtain ⟨G17, hG17⟩ : ∃ G17, G17 = upd (upd G14 p4 (.lst [V.int (k2 - 1), .str J, .ref l'])) p5 (.lst L) := ⟨_, rfl⟩
          rw [← hG17] at z7 hL5
          have hG17' : upd (upd G14 p4 (.lst [(fun i j => V.int (i - j)) k2 1, .str J, .ref l'])) p5 (.lst (([V.ref t, v1', v2', v3'] ++ [v4']) ++ [(fun i j => V.int (i - j)) k2 1, .str J, .ref l'])) = G17 := by
            rw [hG17, hL]
          first
            | rw [hG17']
            | rw [hJ, hG17']
          refine ⟨_, rfl, p5, rfl, ⟨_, .of hL5⟩, fun D2 nD2 => ?_⟩
          refine lc_list (K := K) (a := p5) (xs := L) (fun i G' => Same G17 G' ∧ G' D2 = some (.lst [])) ⟨Ld.Same.new nD2, upd_same⟩ (fun i G' _ h => h.1.seq (.of hL5)) ?_ ?_
          · rintro e x G' hx ⟨sx, hx2⟩
            obtain ⟨d, d1, d2, d3⟩ := l3 x (List.mem_of_getElem? hx)
            exact ⟨rfl, _, rfl, x, d, rfl, d1.same (z7.trans sx), d2, d3, fun G'' s'' => ⟨_, rfl, iteF ⟨sx.trans s'', s'' _ _ hx2⟩⟩⟩
          · rintro G' ⟨sx, hx2⟩
            refine ⟨(show 0 ≤ sizeLine by decide), fun p6 n6 => ?_⟩
            have z8 := Same.new (o := .lst []) n6
            refine ⟨.list [], .list [], .lst (.of (z8 _ _ hx2)) .nil, .lst (.of upd_same) .nil, by decide, by decide, _, rfl, iteF ?_⟩
            have fin8 := z7.trans (sx.trans z8)
            refine ⟨up (sHG.trans zt) (a16.trans (.of fin8)), W16.same fin8, _, _, _, _, _, rfl⟩
      · rintro σ G2 ⟨sH, W2, v1, v3, v4, v5, v6, rfl⟩
        exact ⟨sH, v1, some (.ref wa), v3, v4, v5, v6, rfl⟩
    · rintro σ G ⟨sG, u1, u2, u3, u4, u5, u6, rfl⟩
      -- every letter
      refine ⟨_, rfl, for_str (x := lettersS) (fun i σ G => ∃ u1 u2 u3 u4 u5 u6 u7, σ = [some (.ref a), u1, u2, u3, u4, u5, u6, u7, none, none]) ⟨u1, u2, u3, u4, u5, u6, none, rfl⟩ ?_ ?_⟩
      · rintro i c σ G hc ⟨u1, u2, u3, u4, u5, u6, u7, rfl⟩
        have hc2 : c ∈ lettersS.cps.toList := List.mem_of_getElem? (by simpa using hc)
        have g := List.all_eq_true.mp letters_ok c hc2
        simp only [goodSign, Bool.and_eq_true] at g
        obtain ⟨⟨⟨⟨⟨g1, g2⟩, g3⟩, g4⟩, g5⟩, g6⟩ := g
        have e1 : wordD (.str ⟨#[c]⟩) = true := g1
        have e2 : wordD (.str (Str.ofString "abcdefghijk" ++ one c)) = true := g2
        refine ⟨_, rfl, _, _, rfl, ths _, fits_str g4, _, rfl, ?_⟩
        rw [e1]
        refine iteF ⟨_, rfl, _, _, rfl, rfl, add_len (x := Str.ofString "abcdefghijk") g5, _, _, rfl, ths (Str.ofString "abcdefghijk" ++ one c), fits_str g5, _, rfl, ?_⟩
        rw [e2]
        refine iteF ⟨_, rfl, _, rfl, _, _, rfl, rfl, add_len (x := Str.ofString "b") g6, (show 2 ≤ sizeLine by decide), fun p hp => ?_⟩
        refine ⟨_, .tuple [.str (one c), .str (Str.ofString "b" ++ one c)], rfl, .lf (.dat (.tup (.of upd_same) (.cons (.str _) (.cons (.str _) .nil)))), fits2 g4 g6, _, rfl, ?_⟩
        have e3 : addrD (.tuple [.str (one c), .str (Str.ofString "b" ++ one c)]) = true := by
          show ([PyData.str (one c), .str (Str.ofString "b" ++ one c)].all wordD) = true
          simp only [List.all_cons, List.all_nil, Bool.and_true]
          show (wordS (one c) && wordS (Str.ofString "b" ++ one c)) = true
          rw [g1, g3]
          rfl
        rw [e3]
        exact iteF ⟨_, _, _, _, _, _, _, rfl⟩
      · rintro σ G ⟨u1, u2, u3, u4, u5, u6, u7, rfl⟩
        -- every other sign
        refine ⟨_, rfl, for_str (x := othersS) (fun i σ G => ∃ u1 u2 u3 u4 u5 u6 u7, σ = [some (.ref a), u1, u2, u3, u4, u5, u6, u7, none, none]) ⟨u1, u2, u3, u4, u5, u6, u7, rfl⟩ ?_ ?_⟩
        · rintro i c σ G hc ⟨u1, u2, u3, u4, u5, u6, u7, rfl⟩
          have hc2 : c ∈ othersS.cps.toList := List.mem_of_getElem? (by simpa using hc)
          have g := List.all_eq_true.mp others_ok c hc2
          simp only [badSign, Bool.and_eq_true, Bool.not_eq_true'] at g
          obtain ⟨⟨⟨⟨⟨g1, g2⟩, g3⟩, g4⟩, g5⟩, ⟨⟨⟨⟨f1, f2⟩, f3⟩, f4⟩, f5⟩⟩ := g
          have e1 : wordD (.str ⟨#[c]⟩) = false := g1
          have e2 : wordD (.str (Str.ofString "a" ++ one c)) = false := g2
          have e3 : wordD (.str (Str.ofString "abc" ++ one c ++ Str.ofString "efgh")) = false := g3
          have e4 : wordD (.str (Str.ofString "abcdefghijk" ++ one c)) = false := g4
          refine ⟨_, rfl, _, _, rfl, ths _, fits_str f1, _, rfl, ?_⟩
          rw [e1]
          refine iteF ⟨_, rfl, _, _, rfl, rfl, add_len (x := Str.ofString "a") f2, _, _, rfl, ths (Str.ofString "a" ++ one c), fits_str f2, _, rfl, ?_⟩
          rw [e2]
          refine iteF ⟨_, rfl, _, _, rfl, rfl, add_len2 (x := Str.ofString "abc") (y := Str.ofString "efgh") f3, _, _, rfl, rfl, add_len (x := Str.ofString "abc" ++ one c) (y := Str.ofString "efgh") f3, _, _, rfl, ths (Str.ofString "abc" ++ one c ++ Str.ofString "efgh"), fits_str f3, _, rfl, ?_⟩
          rw [e3]
          refine iteF ⟨_, rfl, _, _, rfl, rfl, add_len (x := Str.ofString "abcdefghijk") f4, _, _, rfl, ths (Str.ofString "abcdefghijk" ++ one c), fits_str f4, _, rfl, ?_⟩
          rw [e4]
          refine iteF ?_
          refine ⟨_, rfl, _, _, rfl, rfl, add_len (x := Str.ofString "b") f5, (show 2 ≤ sizeLine by decide), fun p hp => ?_⟩
          refine ⟨_, .tuple [.str (Str.ofString "a"), .str (Str.ofString "b" ++ one c)], rfl, .lf (.dat (.tup (.of upd_same) (.cons (.str _) (.cons (.str _) .nil)))), fits2 (by decide +kernel) f5, _, rfl, ?_⟩
          have e5 : addrD (.tuple [.str (Str.ofString "a"), .str (Str.ofString "b" ++ one c)]) = false := by
            show ([PyData.str (Str.ofString "a"), .str (Str.ofString "b" ++ one c)].all wordD) = false
            simp only [List.all_cons, List.all_nil, Bool.and_true]
            show (wordS (Str.ofString "a") && wordS (Str.ofString "b" ++ one c)) = false
            rw [g5, Bool.and_false]
          rw [e5]
          refine iteF ⟨_, rfl, (show 1 ≤ sizeLine by decide), fun p2 hp2 => ?_⟩
          refine ⟨_, .tuple [.str (one c)], rfl, .lf (.dat (.tup (.of upd_same) (.cons (.str _) .nil))), fits1 f1, _, rfl, ?_⟩
          have e6 : addrD (.tuple [.str (one c)]) = false := by
            show ([PyData.str (one c)].all wordD) = false
            simp only [List.all_cons, List.all_nil, Bool.and_true]
            exact g1
          rw [e6]
          exact iteF ⟨_, _, _, _, _, _, _, rfl⟩
        · rintro σ G ⟨u1, u2, u3, u4, u5, u6, u7, rfl⟩
          -- five thousand words, and a number behind them
          refine ⟨(show 1 ≤ sizeLine by decide), fun p hp => ⟨p, 5000, [V.str "a"], rfl, rfl, .of upd_same, (fun e => nomatch e), by decide, (show 1 * 5000 ≤ 100000 by decide), fun p2 hp2 => ?_⟩⟩
          refine ⟨_, .tuple ((List.replicate 5000 (Str.ofString "a")).map PyData.str), rfl, .lf (.dat (.tup (.of upd_same) ?_)), ⟨(fun z e => by cases e), (fun ds e => by cases e; exact ⟨by rw [List.length_map, List.length_replicate]; decide, rep_fit 5000⟩)⟩, _, rfl, ?_⟩
          · rw [rep_one, ← List.map_replicate]
            exact dp_strs _
          · rw [show addrD (.tuple ((List.replicate 5000 (Str.ofString "a")).map PyData.str)) = true from rep_all 5000]
            refine iteT ⟨(show 1 ≤ sizeLine by decide), fun p3 hp3 => ⟨p3, 5000, [V.str "a"], rfl, rfl, .of upd_same, (fun e => nomatch e), by decide, (show 1 * 5000 ≤ 100000 by decide), fun p4 hp4 => ?_⟩⟩
            refine ⟨(show 1 ≤ sizeLine by decide), fun p5 hp5 => ?_⟩
            refine ⟨p4, p5, _, [.int 1], rfl, rfl, .of (Ld.Same.new hp5 _ _ upd_same), .of upd_same, ?_, fun r G2 s2 q2 => ?_⟩
            · rw [PyProof.Rows.lm_len_rep_flat, sizeLine_eq]
              decide
            · refine ⟨.ref r, .tuple ((List.replicate 5000 (Str.ofString "a")).map PyData.str ++ [.int 1]), rfl, .lf (.dat (.tup q2 (dp_append ?_ (.cons (.int 1) .nil)))), ⟨(fun z e => by cases e), (fun ds e => by
                cases e
                refine ⟨by rw [List.length_append, List.length_map, List.length_replicate]; decide, fun d hd => ?_⟩
                rcases List.mem_append.mp hd with g | g
                · exact rep_fit 5000 d g
                · rw [List.mem_singleton.mp g]
                  exact fun z e => by cases e)⟩, _, rfl, ?_⟩
              · rw [rep_one, ← List.map_replicate]
                exact dp_strs _
              · rw [show addrD (.tuple ((List.replicate 5000 (Str.ofString "a")).map PyData.str ++ [.int 1])) = false from by
                  show (((List.replicate 5000 (Str.ofString "a")).map PyData.str ++ [PyData.int 1]).all wordD) = false
                  rw [List.all_append]
                  simp [wordD]]
                exact q _
end
end K1
namespace K1
open PySem L2 Ld
theorem all_mk {l : PySem.W.OpenLaw} {w : World} {K : PySem.W.Frag} {h : Heap} {mg : Str → Option Value} {fa : Addr} (X : K.In h) (G : h.Ns mainGlobals mg) (hfa : mg "law" = some (.ref fa))
    {f1 f2 f3 f4 f5 f6 f7 f8 f9 f10 f11 f12 f13 f14 : Addr}
    {od1 an1 od2 an2 od3 an3 od4 an4 od5 an5 od6 an6 od7 an7 od8 an8 od9 an9 od10 an10 od11 an11 od12 an12 od13 an13 od14 an14 : Option Addr}
    {sl1 sl2 sl3 sl4 sl5 sl6 sl7 sl8 sl9 sl10 sl11 sl12 sl13 sl14 : Array (Option Value)}
    {oc1 kV1 dc1 pm1 cd1 ct1 oc2 kV2 dc2 pm2 cd2 ct2 oc3 kV3 dc3 pm3 cd3 ct3 oc4 kV4 dc4 pm4 cd4 ct4 oc5 kV5 dc5 pm5 cd5 ct5 oc6 kV6 dc6 pm6 cd6 ct6 oc7 kV7 dc7 pm7 cd7 ct7 oc8 kV8 dc8 pm8 cd8 ct8 oc9 kV9 dc9 pm9 cd9 ct9 oc10 kV10 dc10 pm10 cd10 ct10 oc11 kV11 dc11 pm11 cd11 ct11 oc12 kV12 dc12 pm12 cd12 ct12 oc13 kV13 dc13 pm13 cd13 ct13 oc14 kV14 dc14 pm14 cd14 ct14 : Value}
    (a1 : PySem.W.nsIn K mainGlobals "is_number_to" = some (some (.ref f1)))
    (l1 : K.lookup f1 = some ⟨oc1, od1, .func (PySem.W.fnOf "is_number_to" "is_number_to" (defArgs sNum) (defBody sNum) (defScope sNum) .none kV1 dc1 pm1 an1 cd1 ct1), sl1⟩)
    (c1 : PySem.W.codeIn K cd1 "is_number_to" = true) (k1 : PySem.W.keepIn K (.ref f1) = true)
    (a2 : PySem.W.nsIn K mainGlobals "is_day" = some (some (.ref f2)))
    (l2 : K.lookup f2 = some ⟨oc2, od2, .func (PySem.W.fnOf "is_day" "is_day" (defArgs sDay) (defBody sDay) (defScope sDay) .none kV2 dc2 pm2 an2 cd2 ct2), sl2⟩)
    (c2 : PySem.W.codeIn K cd2 "is_day" = true) (k2 : PySem.W.keepIn K (.ref f2) = true)
    (a3 : PySem.W.nsIn K mainGlobals "is_word" = some (some (.ref f3)))
    (l3 : K.lookup f3 = some ⟨oc3, od3, .func (PySem.W.fnOf "is_word" "is_word" (defArgs sWord) (defBody sWord) (defScope sWord) .none kV3 dc3 pm3 an3 cd3 ct3), sl3⟩)
    (c3 : PySem.W.codeIn K cd3 "is_word" = true) (k3 : PySem.W.keepIn K (.ref f3) = true)
    (a4 : PySem.W.nsIn K mainGlobals "is_address" = some (some (.ref f4)))
    (l4 : K.lookup f4 = some ⟨oc4, od4, .func (PySem.W.fnOf "is_address" "is_address" (defArgs sAddr) (defBody sAddr) (defScope sAddr) .none kV4 dc4 pm4 an4 cd4 ct4), sl4⟩)
    (c4 : PySem.W.codeIn K cd4 "is_address" = true) (k4 : PySem.W.keepIn K (.ref f4) = true)
    (a5 : PySem.W.nsIn K mainGlobals "_law_well" = some (some (.ref f5)))
    (l5 : K.lookup f5 = some ⟨oc5, od5, .func (PySem.W.fnOf "_law_well" "_law_well" (defArgs sWell) (defBody sWell) (defScope sWell) .none kV5 dc5 pm5 an5 cd5 ct5), sl5⟩)
    (c5 : PySem.W.codeIn K cd5 "_law_well" = true) (k5 : PySem.W.keepIn K (.ref f5) = true)
    (a6 : PySem.W.nsIn K mainGlobals "_law_draw" = some (some (.ref f6)))
    (l6 : K.lookup f6 = some ⟨oc6, od6, .func (PySem.W.fnOf "_law_draw" "_law_draw" (defArgs sDraw) (defBody sDraw) (defScope sDraw) .none kV6 dc6 pm6 an6 cd6 ct6), sl6⟩)
    (c6 : PySem.W.codeIn K cd6 "_law_draw" = true) (k6 : PySem.W.keepIn K (.ref f6) = true)
    (a7 : PySem.W.nsIn K mainGlobals "_law_choose" = some (some (.ref f7)))
    (l7 : K.lookup f7 = some ⟨oc7, od7, .func (PySem.W.fnOf "_law_choose" "_law_choose" (defArgs sChoose) (defBody sChoose) (defScope sChoose) .none kV7 dc7 pm7 an7 cd7 ct7), sl7⟩)
    (c7 : PySem.W.codeIn K cd7 "_law_choose" = true) (k7 : PySem.W.keepIn K (.ref f7) = true)
    (a8 : PySem.W.nsIn K mainGlobals "_law_word_due" = some (some (.ref f8)))
    (l8 : K.lookup f8 = some ⟨oc8, od8, .func (PySem.W.fnOf "_law_word_due" "_law_word_due" (defArgs sWordDue) (defBody sWordDue) (defScope sWordDue) .none kV8 dc8 pm8 an8 cd8 ct8), sl8⟩)
    (c8 : PySem.W.codeIn K cd8 "_law_word_due" = true) (k8 : PySem.W.keepIn K (.ref f8) = true)
    (a9 : PySem.W.nsIn K mainGlobals "_law_address_due" = some (some (.ref f9)))
    (l9 : K.lookup f9 = some ⟨oc9, od9, .func (PySem.W.fnOf "_law_address_due" "_law_address_due" (defArgs sAddrDue) (defBody sAddrDue) (defScope sAddrDue) .none kV9 dc9 pm9 an9 cd9 ct9), sl9⟩)
    (c9 : PySem.W.codeIn K cd9 "_law_address_due" = true) (k9 : PySem.W.keepIn K (.ref f9) = true)
    (a10 : PySem.W.nsIn K mainGlobals "_law_day_due" = some (some (.ref f10)))
    (l10 : K.lookup f10 = some ⟨oc10, od10, .func (PySem.W.fnOf "_law_day_due" "_law_day_due" (defArgs sDayDue) (defBody sDayDue) (defScope sDayDue) .none kV10 dc10 pm10 an10 cd10 ct10), sl10⟩)
    (c10 : PySem.W.codeIn K cd10 "_law_day_due" = true) (k10 : PySem.W.keepIn K (.ref f10) = true)
    (a11 : PySem.W.nsIn K mainGlobals "_law_any" = some (some (.ref f11)))
    (l11 : K.lookup f11 = some ⟨oc11, od11, .func (PySem.W.fnOf "_law_any" "_law_any" (defArgs sAny) (defBody sAny) (defScope sAny) .none kV11 dc11 pm11 an11 cd11 ct11), sl11⟩)
    (c11 : PySem.W.codeIn K cd11 "_law_any" = true) (k11 : PySem.W.keepIn K (.ref f11) = true)
    (a12 : PySem.W.nsIn K mainGlobals "_law_bent" = some (some (.ref f12)))
    (l12 : K.lookup f12 = some ⟨oc12, od12, .func (PySem.W.fnOf "_law_bent" "_law_bent" (defArgs sBent) (defBody sBent) (defScope sBent) .none kV12 dc12 pm12 an12 cd12 ct12), sl12⟩)
    (c12 : PySem.W.codeIn K cd12 "_law_bent" = true) (k12 : PySem.W.keepIn K (.ref f12) = true)
    (a13 : PySem.W.nsIn K mainGlobals "_law_told" = some (some (.ref f13)))
    (l13 : K.lookup f13 = some ⟨oc13, od13, .func (PySem.W.fnOf "_law_told" "_law_told" (defArgs sTold) (defBody sTold) (defScope sTold) .none kV13 dc13 pm13 an13 cd13 ct13), sl13⟩)
    (c13 : PySem.W.codeIn K cd13 "_law_told" = true) (k13 : PySem.W.keepIn K (.ref f13) = true)
    (a14 : PySem.W.nsIn K mainGlobals "law" = some (some (.ref f14)))
    (l14 : K.lookup f14 = some ⟨oc14, od14, .func (PySem.W.fnOf "law" "law" (defArgs sLaw) (defBody sLaw) (defScope sLaw) .none kV14 dc14 pm14 an14 cd14 ct14), sl14⟩)
    (c14 : PySem.W.codeIn K cd14 "law" = true) (k14 : PySem.W.keepIn K (.ref f14) = true)
    (z1 : PySem.W.nsIn K mainGlobals "isinstance" = some none)
    (z2 : PySem.W.nsIn K mainGlobals "int" = some none)
    (z3 : PySem.W.nsIn K mainGlobals "bool" = some none)
    (z4 : PySem.W.nsIn K mainGlobals "str" = some none)
    (z5 : PySem.W.nsIn K mainGlobals "tuple" = some none)
    (z6 : PySem.W.nsIn K mainGlobals "list" = some none)
    (z7 : PySem.W.nsIn K mainGlobals "len" = some none)
    (z8 : PySem.W.nsIn K mainGlobals "range" = some none)
    (z9 : PySem.W.nsIn K mainGlobals "repr" = some none)
    (z10 : PySem.W.nsIn K mainGlobals "max" = some none)
    (z11 : PySem.W.nsIn K mainGlobals "min" = some none)
    {t1 : Tok} (g1 : PySem.W.nsIn K mainGlobals "WORD_LETTERS" = some (some (.int 12 t1)))
    {t2 : Tok} (g2 : PySem.W.nsIn K mainGlobals "LAST_DAY" = some (some (.int 1000000 t2)))
    : ∃ fd : FuncData, (∀ (s : Shared) (v : Value), BindsTo s fd ⟨[v], []⟩ [("_law_script", v)]) ∧ ∀ base : Heap, K.In base → base.Ns mainGlobals mg → FnG l.prog w K mg base 5 fa fd ["_law_script"] (spLaw K) := by
  have e := hfa.symm.trans (PySem.W.mg_of X G a14)
  cases e
  have F1 := fun_mk (st := sNum) l1 c1 k1
  have b1 := F1.binds (ps := ["value", "highest"]) fun _ _ _ _ _ _ us hl => match us, hl with | [_, _], _ => rfl
  have m1 := PySem.W.mg_of X G a1
  have F2 := fun_mk (st := sDay) l2 c2 k2
  have b2 := F2.binds (ps := ["value"]) fun _ _ _ _ _ _ us hl => match us, hl with | [_], _ => rfl
  have m2 := PySem.W.mg_of X G a2
  have F3 := fun_mk (st := sWord) l3 c3 k3
  have b3 := F3.binds (ps := ["value"]) fun _ _ _ _ _ _ us hl => match us, hl with | [_], _ => rfl
  have m3 := PySem.W.mg_of X G a3
  have F4 := fun_mk (st := sAddr) l4 c4 k4
  have b4 := F4.binds (ps := ["value"]) fun _ _ _ _ _ _ us hl => match us, hl with | [_], _ => rfl
  have m4 := PySem.W.mg_of X G a4
  have F5 := fun_mk (st := sWell) l5 c5 k5
  have b5 := F5.binds (ps := ["_law_script", "_law_start"]) fun _ _ _ _ _ _ us hl => match us, hl with | [_, _], _ => rfl
  have m5 := PySem.W.mg_of X G a5
  have F6 := fun_mk (st := sDraw) l6 c6 k6
  have b6 := F6.binds (ps := ["_law_well_here", "_law_many"]) fun _ _ _ _ _ _ us hl => match us, hl with | [_, _], _ => rfl
  have m6 := PySem.W.mg_of X G a6
  have F7 := fun_mk (st := sChoose) l7 c7 k7
  have b7 := F7.binds (ps := ["_law_well_here", "_law_things"]) fun _ _ _ _ _ _ us hl => match us, hl with | [_, _], _ => rfl
  have m7 := PySem.W.mg_of X G a7
  have F8 := fun_mk (st := sWordDue) l8 c8 k8
  have b8 := F8.binds (ps := ["_law_thing"]) fun _ _ _ _ _ _ us hl => match us, hl with | [_], _ => rfl
  have m8 := PySem.W.mg_of X G a8
  have F9 := fun_mk (st := sAddrDue) l9 c9 k9
  have b9 := F9.binds (ps := ["_law_thing"]) fun _ _ _ _ _ _ us hl => match us, hl with | [_], _ => rfl
  have m9 := PySem.W.mg_of X G a9
  have F10 := fun_mk (st := sDayDue) l10 c10 k10
  have b10 := F10.binds (ps := ["_law_thing"]) fun _ _ _ _ _ _ us hl => match us, hl with | [_], _ => rfl
  have m10 := PySem.W.mg_of X G a10
  have F11 := fun_mk (st := sAny) l11 c11 k11
  have b11 := F11.binds (ps := ["_law_well_here"]) fun _ _ _ _ _ _ us hl => match us, hl with | [_], _ => rfl
  have m11 := PySem.W.mg_of X G a11
  have F12 := fun_mk (st := sBent) l12 c12 k12
  have b12 := F12.binds (ps := ["_law_well_here", "_law_thing"]) fun _ _ _ _ _ _ us hl => match us, hl with | [_, _], _ => rfl
  have m12 := PySem.W.mg_of X G a12
  have F13 := fun_mk (st := sTold) l13 c13 k13
  have b13 := F13.binds (ps := ["_law_thing"]) fun _ _ _ _ _ _ us hl => match us, hl with | [_], _ => rfl
  have m13 := PySem.W.mg_of X G a13
  have F14 := fun_mk (st := sLaw) l14 c14 k14
  have T : Tx mg := ⟨PySem.W.mg_none_of X G z1, PySem.W.mg_none_of X G z2, PySem.W.mg_none_of X G z3, PySem.W.mg_none_of X G z4, PySem.W.mg_none_of X G z5, PySem.W.mg_none_of X G z6, PySem.W.mg_none_of X G z7, PySem.W.mg_none_of X G z8, PySem.W.mg_none_of X G z9, PySem.W.mg_none_of X G z10, PySem.W.mg_none_of X G z11, ⟨_, PySem.W.mg_of X G g1⟩, ⟨_, PySem.W.mg_of X G g2⟩⟩
  refine ⟨PySem.W.fnOf "law" "law" (defArgs sLaw) (defBody sLaw) (defScope sLaw) .none kV14 dc14 pm14 an14 cd14 ct14, fun s v => .of_eq rfl, fun base _ _ => ?_⟩
  have dNum : Df l.prog w K mg base 1 "is_number_to" ["value", "highest"] (spNum K) := ⟨_, _, m1, k1, b1, ok_num F1 T⟩
  have dDay : Df l.prog w K mg base 2 "is_day" ["value"] (spDay K) := ⟨_, _, m2, k2, b2, ok_day F2 T dNum⟩
  have dWord : Df l.prog w K mg base 1 "is_word" ["value"] (spWord K) := ⟨_, _, m3, k3, b3, ok_word F3 T⟩
  have dAddr : Df l.prog w K mg base 2 "is_address" ["value"] (spAddr K) := ⟨_, _, m4, k4, b4, ok_addr F4 T dWord⟩
  have dWell : Df l.prog w K mg base 1 "_law_well" ["_law_script", "_law_start"] (spWell K) := ⟨_, _, m5, k5, b5, ok_well F5 T⟩
  have dDraw : Df l.prog w K mg base 1 "_law_draw" ["_law_well_here", "_law_many"] spDraw := ⟨_, _, m6, k6, b6, ok_draw F6 T⟩
  have dChoose : Df l.prog w K mg base 2 "_law_choose" ["_law_well_here", "_law_things"] (spChoose K) := ⟨_, _, m7, k7, b7, ok_choose F7 T dDraw⟩
  have dWD : Df l.prog w K mg base 1 "_law_word_due" ["_law_thing"] (spWordDue K) := ⟨_, _, m8, k8, b8, ok_wordDue F8 T⟩
  have dAD : Df l.prog w K mg base 2 "_law_address_due" ["_law_thing"] (spAddrDue K) := ⟨_, _, m9, k9, b9, ok_addrDue F9 T dWD⟩
  have dDD : Df l.prog w K mg base 1 "_law_day_due" ["_law_thing"] (spDay K) := ⟨_, _, m10, k10, b10, ok_dayDue F10 T⟩
  have dAny : Df l.prog w K mg base 3 "_law_any" ["_law_well_here"] (spAny K) := ⟨_, _, m11, k11, b11, ok_any F11 T dChoose⟩
  have dBent : Df l.prog w K mg base 4 "_law_bent" ["_law_well_here", "_law_thing"] (spBent K) := ⟨_, _, m12, k12, b12, ok_bent F12 T dDraw dAny⟩
  have dTold : DfG l.prog w K mg base 3 "_law_told" ["_law_thing"] (spTold K) := ⟨_, _, m13, k13, b13, ok_told F13 T dWD dAD dDD dWord dAddr dDay⟩
  exact ok_law F14 T ⟨dWell, dDraw, dChoose, dAny, dBent, dTold, dWord, dAddr⟩
theorem walk {l : PySem.W.OpenLaw} {q : Program} {loose : List Str} {XP : (Str → Option Value) → Heap → Prop} {YP : World → Heap → Prop} {d : DefRec} {K : Params → PySem.W.Frag} (hn : l.most = some 63) (hdf : d.params.defaults = []) (hY : ∀ (w : World) (h : Heap), YP w h → (K w.params).In h)
    (F : ∀ (w : World) (mg : Str → Option Value) (fa : Addr) (h : Heap), (K w.params).In h → h.Ns mainGlobals mg → mg d.name = some (.ref fa) → ∃ fd : FuncData, (∀ (s : Shared) (u : Value), BindsTo s fd ⟨[u], []⟩ [("_law_script", u)]) ∧
      ∀ base : Heap, (K w.params).In base → base.Ns mainGlobals mg → FnG l.prog w (K w.params) mg base 5 fa fd ["_law_script"] (spLaw (K w.params))) : PySem.W.WalkO q loose XP YP l.row.toRowW d [] (fun f vs => PySem.call f vs) :=
  Ld.walk_G (n := 63) (k := 5) (x := "_law_script") (sp := fun w => spLaw (K w.params)) hn (by decide) hdf ⟨rfl, by decide, by decide⟩ hY F fun w H a ns h1 h2 h3 => ⟨a, ns, rfl, h3, h1, h2, fun _ => rfl⟩
end K1
open PySem PySem.W PyProof.Rows
set_option maxRecDepth 100000 in
set_option maxHeartbeats 0 in
theorem PySem.Challenge.cw_leadsever_k01_words_addresses_days_holds : PySem.Challenge.rw_leadsever_k01_words_addresses_days.Holds := by
  w_on; o_law; k_head; (case hw => w_witness2)
  k_fill
  refine K1.walk (l := PySem.Challenge.rw_leadsever_k01_words_addresses_days) rfl rfl (fun w h Y => PySem.W.kIn_of Y) ?F
  case F =>
    intro w mg fa h KX G hmg
    refine' K1.all_mk KX G hmg ?a1 ?l1 ?c1 ?k1 ?a2 ?l2 ?c2 ?k2 ?a3 ?l3 ?c3 ?k3 ?a4 ?l4 ?c4 ?k4 ?a5 ?l5 ?c5 ?k5 ?a6 ?l6 ?c6 ?k6 ?a7 ?l7 ?c7 ?k7 ?a8 ?l8 ?c8 ?k8 ?a9 ?l9 ?c9 ?k9 ?a10 ?l10 ?c10 ?k10 ?a11 ?l11 ?c11 ?k11 ?a12 ?l12 ?c12 ?k12 ?a13 ?l13 ?c13 ?k13 ?a14 ?l14 ?c14 ?k14 ?z1 ?z2 ?z3 ?z4 ?z5 ?z6 ?z7 ?z8 ?z9 ?z10 ?z11 ?g1 ?g2
    (case a1 => k_is)
    (case l1 => k_is)
    (case c1 => k_is)
    (case k1 => k_is)
    (case a2 => k_is)
    (case l2 => k_is)
    (case c2 => k_is)
    (case k2 => k_is)
    (case a3 => k_is)
    (case l3 => k_is)
    (case c3 => k_is)
    (case k3 => k_is)
    (case a4 => k_is)
    (case l4 => k_is)
    (case c4 => k_is)
    (case k4 => k_is)
    (case a5 => k_is)
    (case l5 => k_is)
    (case c5 => k_is)
    (case k5 => k_is)
    (case a6 => k_is)
    (case l6 => k_is)
    (case c6 => k_is)
    (case k6 => k_is)
    (case a7 => k_is)
    (case l7 => k_is)
    (case c7 => k_is)
    (case k7 => k_is)
    (case a8 => k_is)
    (case l8 => k_is)
    (case c8 => k_is)
    (case k8 => k_is)
    (case a9 => k_is)
    (case l9 => k_is)
    (case c9 => k_is)
    (case k9 => k_is)
    (case a10 => k_is)
    (case l10 => k_is)
    (case c10 => k_is)
    (case k10 => k_is)
    (case a11 => k_is)
    (case l11 => k_is)
    (case c11 => k_is)
    (case k11 => k_is)
    (case a12 => k_is)
    (case l12 => k_is)
    (case c12 => k_is)
    (case k12 => k_is)
    (case a13 => k_is)
    (case l13 => k_is)
    (case c13 => k_is)
    (case k13 => k_is)
    (case a14 => k_is)
    (case l14 => k_is)
    (case c14 => k_is)
    (case k14 => k_is)
    (case z1 => k_is)
    (case z2 => k_is)
    (case z3 => k_is)
    (case z4 => k_is)
    (case z5 => k_is)
    (case z6 => k_is)
    (case z7 => k_is)
    (case z8 => k_is)
    (case z9 => k_is)
    (case z10 => k_is)
    (case z11 => k_is)
    (case g1 => k_is)
    (case g2 => k_is)
