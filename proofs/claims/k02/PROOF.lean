import PyProof.Rows.All
import Wide.All
import OpenK.AllK
import Wide.FinOn
import HandS.ForMost
import HandS.Exc
import HandS.ExcOwn
import HandS.TryOnly
import HandS.WordsExc
import HandS.IsInst
import HandS.TupAny
import HandS.TupMul
import HandS.Wide
import HandS.WideMore
import HandS.Flow
import HandS.Style
import HandS.Walk
import KE.KExcSuper
import PyProof.ReprReads
import PyProof.ReprRoads
import HandS.Lambda
import KE.KDflt
import KE.GoesEnum
import KE.GoesMore
import HandS.Iter
import HandS.Conv
import HandS.Gcd
import HandS.TryMany
import KE.KEqSeq
import PySem.Challenge.RW_oftenenough_k02_whole_shares_and_sizes
set_option Elab.async false
set_option linter.all false
set_option maxRecDepth 100000
set_option maxHeartbeats 4000000
namespace Gd
open PySem PySem.Spec PyProof.Rows L2

/-! ### the promise of a def around which no repr is under way -/
structure FnG (pr : Program) (w : World) (K : PySem.W.Frag) (mg : Str → Option Value) (base : Heap) (cx : CXT) (k : Nat) (f : Addr)
    (fd : FuncData) (ps : List Str) (sp : Sp) : Prop where
  len : ∀ vs H Q E, sp vs H Q E → vs.length = ps.length
  run : ∀ (A : Around) (outer : List Env) (s : Shared) (H : Hp) (args : Args) (us : List Value) (vs : List V) (Q : VK) (E : XK),
    A.guards = some [] → Room k A → Env0 pr w K mg base A outer s H → BindsTo s fd args (ps.zip us) → Vals vs us → sp vs H Q E →
    codeAny (model pr w) A (.call (.ref f) args) (CR cx outer pr w H s Q E) s

section
variable {pr : Program} {w : World} {K : PySem.W.Frag} {mg : Str → Option Value} {base : Heap}

theorem fnG_of {cx : CXT} {k : Nat} {f : Addr} {nm ql : Str} {pa : Arguments} {bd : List Stmt} {sc : Scope} {dV kV doc pm cdv ct oc : Value}
    {an od : Option Addr} {osl : Array (Option Value)} {N ps : List Str} {sp : Sp}
    (lk : K.lookup f = some ⟨oc, od, .func (PySem.W.fnOf nm ql pa bd sc dV kV doc pm an cdv ct), osl⟩)
    (hcd : PySem.W.codeIn K cdv ql = true) (S : FnScope N ps sc) (len : ∀ vs H Q E, sp vs H Q E → vs.length = ps.length)
    (hbody : ∀ (A : Around) (outer : List Env) (s : Shared) (H : Hp) (vs : List V) (Q : VK) (E : XK), A.guards = some [] →
      Room k (A.deeper (envOfC ql sc s.heap.objs.size f cdv)) → sp vs H Q E →
      ∃ t, PSs (cxOf cx pr w K mg base N ql sc f cdv A outer s H E) bd t ∧ t { nx := fun _ H' => Q .non H', rt := Q } (start N vs) H) :
    FnG pr w K mg base cx (k + 1) f (PySem.W.fnOf nm ql pa bd sc dV kV doc pm an cdv ct) ps sp := by
  constructor
  · exact len
  · intro A outer s H args us vs Q E gA room e0 bind rel hsp
    have el := len _ _ _ _ hsp
    have inK : K.In s.heap := e0.mod.kin.keeps fun b o e => (e0.bs b o e).1
    have nolim : s.heap.NoLimit := e0.mod.nolimit.keeps fun b o e => (e0.bs b o e).1
    have kinds : ∀ y ∈ ps.zip us, sc.names.lookup y.1 = some .local ∨
        (sc.names.lookup y.1 = some .cell ∧ ((cellsFrom (s.heap.objs.size + 1) sc.names []).lookup y.1).isSome = true) := by
      rintro ⟨n, v⟩ hy
      rcases S.par n (List.of_mem_zip hy).1 with q | q
      · exact Or.inl q
      · exact Or.inr ⟨q, PySem.W.cellsFrom_some _ _ _ (Or.inl q)⟩
    apply codeAny_call_function room.depth (inK _ _ lk) rfl S.co S.gen rfl (PySem.W.codeRec_of inK hcd)
    apply bind
    refine wpAny_newFunctionEnv_cells S.kind kinds ?_
    intro env he s1 x
    subst he
    refine ⟨nolim.keeps x.toInCall.keep, codeAny_func ?_⟩
    obtain ⟨t, ht, hq⟩ := hbody A outer s H vs Q E gA (room.deeper _) hsp
    have J : Inv (cxOf cx pr w K mg base N ql sc f cdv A outer s H E) [] (start N vs) H s1 := inv_start S room.hd e0 el rel x
    refine wpAny_mono (ht.run [] s1 (start N vs) H _ J hq) ?_ (fun e s' hs => hs)
    intro fl s' hs
    cases fl with
    | ret u =>
      obtain ⟨v, σ', H', J', rv, q⟩ := hs
      exact ⟨v, H', J'.os, J'.bare, J'.base, J'.hok, rv, q⟩
    | next =>
      obtain ⟨σ', H', J', q⟩ := hs
      exact ⟨V.non, H', J'.os, J'.bare, J'.base, J'.hok, rfl, q⟩
    | brk => exact hs.choose_spec.choose_spec.2.elim
    | cont => exact hs.choose_spec.choose_spec.2.elim

/-- a def of the text, no exception leaves it -/
theorem okG {x ql : Str} {st : Stmt} {f : Addr} {fd : FuncData} {N ps : List Str} {k : Nat} {sp : Sp} (F : Fun K x ql st f fd)
    (S : FnScope N ps (defScope st)) (len : ∀ vs H Q E, sp vs H Q E → vs.length = ps.length)
    (hbody : ∀ (cdv : Value) (A : Around) (outer : List Env) (s : Shared) (H : Hp) (vs : List V) (Q : VK) (E : XK), A.guards = some [] →
      Room k (A.deeper (envOfC ql (defScope st) s.heap.objs.size f cdv)) → sp vs H Q E →
      ∃ t, PSs (cxOf CX0 pr w K mg base N ql (defScope st) f cdv A outer s H E).nox (defBody st) t ∧
        t { nx := fun _ H' => Q .non H', rt := Q } (start N vs) H) : FnG pr w K mg base CX0 (k + 1) f fd ps sp := by
  obtain ⟨oc, od, kV, doc, pm, an, cdv, ct, osl, rfl, lk, hcd⟩ := F.ex
  refine fnG_of lk hcd S len ?_
  intro A outer s H vs Q E gA hr hsp
  obtain ⟨t, h, q⟩ := hbody cdv A outer s H vs Q E gA hr hsp
  exact ⟨t, h.nox, q⟩
end

section
variable {X : Cx} {cx : CXT} {k : Nat} {f : Addr} {fd : FuncData} {ps : List Str} {sp : Sp} {dvs : List V} {ds : List Value} {E : XK} {x : Str}
  {p pos : Pos} {e : Expr} {es : List Expr} {t : TA}

theorem run_fnG {pins : List (Addr × Obj)} {σ : L2.St} {H : Hp} {s : Shared} {Q : VK} {us : List Value} {vs : List V}
    (F : FnG X.prog X.w X.K X.mg X.base cx k f fd ps sp) (gA : X.A.guards = some []) (hr : Room k X.A) (hb : Binds X.K fd ps ds) (hd : Vals dvs ds)
    (hx : Passes cx X E) (I : Inv X pins σ H s) (r : Vals vs us) (h : sp (vs ++ dvs) H Q E) :
    wpAny (model X.prog X.w) X.A (call (.ref f) us) (EP X pins σ Q) X.xe s := by
  have r2 := r.append hd
  have hl : (us ++ ds).length = ps.length := by
    rw [← r2.length]
    exact F.len _ _ _ _ h
  apply wpAny_call
  refine codeAny_mono (F.run X.A X.stack s H ⟨us, []⟩ (us ++ ds) (vs ++ dvs) Q E gA hr I.env0 (hb s us I.kIn hl) r2 h) ?_
  intro r s' hq
  cases r with
  | error e => exact hx pins σ H s e s' I hq
  | ok fl =>
    cases fl with
    | ret u => exact I.after hq
    | next => exact False.elim hq
    | brk => exact False.elim hq
    | cont => exact False.elim hq

theorem pe_callG (F : FnG X.prog X.w X.K X.mg X.base cx k f fd ps sp) (gA : X.A.guards = some []) (hr : Room k X.A) (hg : Gl X x)
    (hm : X.mg x = some (.ref f)) (hk : PySem.W.keepIn X.K (.ref f) = true) (hb : Binds X.K fd ps ds) (hd : Vals dvs ds) (hx : Passes cx X E)
    (ha : PA X (e :: es) t) (hdb : (x == ("__debug__" : Str)) = false := by decide)
    (he : starEach (e :: es) X.env = (false, eval e X.env) :: starEach es X.env := by rfl)
    (hpl : (backTo pos (starEach es X.env)).any (·.1) = false := by rfl) : PE X (.Call (.Name x p) (e :: es) [] pos) (tCall sp dvs E t) := by
  constructor
  intro pins s σ H Q I h
  apply wpAny_Call_Name_kw
  refine ld_glob I hg hm ?_ hdb
  exact PySem.W.callWith_K (h₀ := X.base) I.ok.mod.kin hk
    (thn (ha.run pos pins s σ H _ I h) fun us s1 ⟨vs, H1, I1, r, q⟩ => ⟨I1.kIn, run_fnG F gA hr hb hd hx I1 r q⟩) he hpl

theorem pe_call0G (F : FnG X.prog X.w X.K X.mg X.base cx k f fd ps sp) (gA : X.A.guards = some []) (hr : Room k X.A) (hg : Gl X x)
    (hm : X.mg x = some (.ref f)) (hk : PySem.W.keepIn X.K (.ref f) = true) (hb : Binds X.K fd ps ds) (hd : Vals dvs ds) (hx : Passes cx X E)
    (hdb : (x == ("__debug__" : Str)) = false := by decide) : PE X (.Call (.Name x p) [] [] pos) (tCall sp dvs E tNil) := by
  constructor
  intro pins s σ H Q I h
  apply wpAny_Call_Name_kw
  refine ld_glob I hg hm ?_ hdb
  exact PySem.W.callWith_K0 I.kIn hk (run_fnG (us := []) F gA hr hb hd hx I .nil h)
end

/-! ### data of the tracked heap, dicts too -/
def keyD : Key → PyData
  | .inl i => .int i
  | .inr x => .str x
mutual
inductive Da (H : Hp) : V → PyData → Prop
  | non : Da H .non .none
  | bl (b : Bool) : Da H (.bl b) (.bool b)
  | int (i : Int) : Da H (.int i) (.int i)
  | str (x : Str) : Da H (.str x) (.str x)
  | lst {a : Addr} {xs : List V} {ds : List PyData} : H a = some (.lst xs) → DaL H xs ds → Da H (.ref a) (.list ds)
  | tup {a : Addr} {xs : List V} {ds : List PyData} : H a = some (.tup xs) → DaL H xs ds → Da H (.ref a) (.tuple ds)
  | dic {a : Addr} {kvs : List (Key × V)} {ds : List PyData} : H a = some (.dK kvs) → DaL H (kvs.map (·.2)) ds →
      Da H (.ref a) (.dict ((kvs.map fun p => keyD p.1).zip ds))
inductive DaL (H : Hp) : List V → List PyData → Prop
  | nil : DaL H [] []
  | cons {v : V} {vs : List V} {d : PyData} {ds : List PyData} : Da H v d → DaL H vs ds → DaL H (v :: vs) (d :: ds)
end
mutual
theorem Da.mono {H H' : Hp} (k : ∀ b o, H b = some o → H' b = some o) : ∀ {v : V} {d : PyData}, Da H v d → Da H' v d
  | _, _, .non => .non
  | _, _, .bl b => .bl b
  | _, _, .int i => .int i
  | _, _, .str x => .str x
  | _, _, .lst h r => .lst (k _ _ h) (r.mono k)
  | _, _, .tup h r => .tup (k _ _ h) (r.mono k)
  | _, _, .dic h r => .dic (k _ _ h) (r.mono k)
theorem DaL.mono {H H' : Hp} (k : ∀ b o, H b = some o → H' b = some o) : ∀ {v : List V} {d : List PyData}, DaL H v d → DaL H' v d
  | _, _, .nil => .nil
  | _, _, .cons h r => .cons (h.mono k) (r.mono k)
end
theorem DaL.length {H : Hp} : ∀ {vs : List V} {ds : List PyData}, DaL H vs ds → vs.length = ds.length
  | _, _, .nil => rfl
  | _, _, .cons _ r => congrArg (· + 1) r.length
theorem keys_read {pr : Program} {w : World} {h : Heap} : ∀ {es : List DictEntry} {kvs : List (Key × Value)}, PySem.Pairs (mixKind pr w) es kvs →
    ReadsAll h (es.map (·.key)) (kvs.map fun p => keyD p.1) []
  | _, _, .nil => .nil
  | _, _, .cons (e := e) (kv := kv) hk _ r => by
    have hk' : keyIs kv.1 e.key = true := hk
    rcases keyIs_shape hk' with ⟨i, t, e1, e2⟩ | ⟨y, t, e1, e2⟩
    · have := ReadsAll.cons (as := []) (bs := []) (Reads.int (h := h) i t) (keys_read r)
      simpa [keyD, e1, e2] using this
    · have := ReadsAll.cons (as := []) (bs := []) (Reads.str (h := h) y t) (keys_read r)
      simpa [keyD, e1, e2] using this
theorem vals_of_pairs {pr : Program} {w : World} : ∀ {es : List DictEntry} {kvs : List (Key × Value)}, PySem.Pairs (mixKind pr w) es kvs → es.map (·.val) = kvs.map (·.2)
  | _, _, .nil => rfl
  | _, _, .cons _ hv r => by simp [hv, vals_of_pairs r]
theorem kv_keys : ∀ {kvs : List (Key × V)} {us : List (Key × Value)}, KV kvs us → (kvs.map fun p => keyD p.1) = us.map fun p => keyD p.1
  | _, _, .nil => rfl
  | _, _, .cons h r => by simp [h.1, kv_keys r]
theorem kv_vals : ∀ {kvs : List (Key × V)} {us : List (Key × Value)}, KV kvs us → Vals (kvs.map (·.2)) (us.map (·.2))
  | _, _, .nil => .nil
  | _, _, .cons h r => .cons h.2 (kv_vals r)
section
variable {X : Cx} {pins : List (Addr × Obj)} {σ : L2.St} {H : Hp} {s : Shared}
mutual
theorem Da.reads (I : Inv X pins σ H s) : ∀ {v : V} {d : PyData} {u : Value}, Da H v d → RelV v u → ∃ as, Reads s.heap u d as ∧ ∀ b ∈ as, H b ≠ none
  | _, _, _, .non, r => by cases r; exact ⟨[], .none, fun b h => nomatch h⟩
  | _, _, _, .bl b, r => by cases r; exact ⟨[], .bool b, fun b h => nomatch h⟩
  | _, _, _, .int i, r => by obtain ⟨t, rfl⟩ := r; exact ⟨[], .int i t, fun b h => nomatch h⟩
  | _, _, _, .str x, r => by obtain ⟨t, rfl⟩ := r; exact ⟨[], .str x t, fun b h => nomatch h⟩
  | _, _, _, .lst (a := a) h q, r => by
    cases r
    obtain ⟨its, rv, ⟨o, n, ho, hc, hd, _⟩, _⟩ := I.list (X := X) (xs := _) (a := a) (SqL.of h)
    obtain ⟨as, hr, hn⟩ := DaL.reads I q rv
    refine ⟨_, Reads.list ho hc (by first | exact hd | assumption) hr, ?_⟩
    intro b hb
    rcases List.mem_cons.mp hb with e | hb
    · rw [e, h]; exact Option.some_ne_none _
    · exact hn b hb
  | _, _, _, .tup (a := a) h q, r => by
    cases r
    obtain ⟨its, rv, ⟨o, ho, hc, n, hd⟩, _⟩ := I.tuple (X := X) (a := a) (SqT.of h)
    obtain ⟨as, hr, hn⟩ := DaL.reads I q rv
    exact ⟨_, Reads.tuple ho hc hd hr, hn⟩
  | _, _, _, .dic (a := a) (kvs := kvs) (ds := ds) h q, r => by
    cases r
    obtain ⟨_, _, us, kv, o, es, ep, ho, hx, hd, hk, hp, _⟩ := I.hok a _ h
    obtain ⟨as, hr, hn⟩ := DaL.reads I q (kv_vals kv)
    have hl : (kvs.map fun p => keyD p.1).length = ds.length := by
      rw [List.length_map, ← q.length, List.length_map]
    have r1 := keys_read (h := s.heap) hp
    rw [← kv_keys kv] at r1
    rw [← vals_of_pairs hp] at hr
    refine ⟨_, Reads.dict (as := []) (bs := as) ho hx.1 hd ?_ ?_, ?_⟩
    · rw [List.map_fst_zip (by rw [hl]; exact Nat.le_refl _)]; exact r1
    · rw [List.map_snd_zip (by rw [hl]; exact Nat.le_refl _)]; exact hr
    · intro b hb
      rcases List.mem_cons.mp hb with e | hb
      · rw [e, h]; exact Option.some_ne_none _
      · exact hn b (by simpa using hb)
theorem DaL.reads (I : Inv X pins σ H s) : ∀ {vs : List V} {ds : List PyData} {us : List Value}, DaL H vs ds → Vals vs us → ∃ as, ReadsAll s.heap us ds as ∧ ∀ b ∈ as, H b ≠ none
  | _, _, _, .nil, r => by cases r; exact ⟨[], .nil, fun b h => nomatch h⟩
  | _, _, _, .cons h q, r => by
    cases r with
    | cons r1 r2 =>
      obtain ⟨as, q1, n1⟩ := Da.reads I h r1
      obtain ⟨bs, q2, n2⟩ := DaL.reads I q r2
      exact ⟨_, .cons q1 q2, fun b hb => (List.mem_append.mp hb).elim (n1 b) (n2 b)⟩
end
end

/-! ### how much room a thing takes when it is shown -/
structure Sm (n k : Nat) (d : PyData) : Prop where
  sh : d.showable = true
  dp : d.depth ≤ k
  ln : d.shown.length ≤ n
theorem Sm.up {n k n' k' : Nat} {d : PyData} (h : Sm n k d) (h1 : n ≤ n') (h2 : k ≤ k') : Sm n' k' d := ⟨h.sh, Nat.le_trans h.dp h2, Nat.le_trans h.ln h1⟩
theorem sm_none : Sm 4 0 .none := ⟨rfl, Nat.le_refl _, by decide +kernel⟩
theorem sm_bool (b : Bool) : Sm 5 0 (.bool b) := by
  cases b
  · exact ⟨rfl, Nat.le_refl _, by decide +kernel⟩
  · exact ⟨rfl, Nat.le_refl _, by decide +kernel⟩
theorem log_lt {i : Int} {k : Nat} (hk : 0 < k) (h : i.natAbs < 2 ^ k) : i.natAbs.log2 < k := by
  by_cases z : i.natAbs = 0
  · rw [z]; simpa using hk
  · exact (Nat.log2_lt z).mpr h
theorem sm_int {i : Int} (h : i.natAbs < 2 ^ 1920) : Sm 1921 0 (.int i) :=
  have h' := log_lt (by decide) h
  ⟨by show decide (i.natAbs.log2 < 1920) = true; exact decide_eq_true h', Nat.le_refl _, by
    show (PySem.Str.ofString (toString i)).length ≤ 1921
    exact int_text_len_1921 h'⟩
theorem sm_str {x : Str} {n : Nat} (h : (reprText x).length ≤ n) : Sm n 0 (.str x) := ⟨rfl, Nat.le_refl _, by simpa only [PyData.shown] using h⟩
structure SmL (n k : Nat) (ds : List PyData) : Prop where
  all : ∀ d ∈ ds, Sm n k d
theorem SmL.sh {n k : Nat} : ∀ {ds : List PyData}, SmL n k ds → PyData.showableAll ds = true
  | [], _ => rfl
  | d :: ds, h => by
    show (PyData.showable d && PyData.showableAll ds) = true
    rw [(h.all d List.mem_cons_self).sh, SmL.sh (n := n) (k := k) ⟨fun e he => h.all e (List.mem_cons_of_mem _ he)⟩]
    rfl
theorem SmL.dp {n k : Nat} : ∀ {ds : List PyData}, SmL n k ds → PyData.depthAll ds ≤ k
  | [], _ => Nat.zero_le _
  | d :: ds, h => by
    show max (PyData.depth d) (PyData.depthAll ds) ≤ k
    exact Nat.max_le.mpr ⟨(h.all d List.mem_cons_self).dp, SmL.dp (n := n) (k := k) ⟨fun e he => h.all e (List.mem_cons_of_mem _ he)⟩⟩
theorem SmL.ln {n k : Nat} : ∀ {ds : List PyData}, SmL n k ds → piled (PyData.shownAll ds) ≤ ds.length * (n + 2)
  | [], _ => Nat.zero_le _
  | d :: ds, h => by
    have ih := SmL.ln (n := n) (k := k) (ds := ds) ⟨fun e he => h.all e (List.mem_cons_of_mem _ he)⟩
    have hd := (h.all d List.mem_cons_self).ln
    show piled (PyData.shown d :: PyData.shownAll ds) ≤ (ds.length + 1) * (n + 2)
    rw [piled_cons, Nat.succ_mul]
    omega
theorem join_le (ts : List Str) : (Str.join ", " ts).length ≤ piled ts := by
  by_cases h : ts = []
  · subst h; exact Nat.zero_le _
  · have := join_length_add ts h
    omega
theorem shownAll_length : ∀ ds : List PyData, (PyData.shownAll ds).length = ds.length
  | [] => rfl
  | _ :: ds => congrArg (· + 1) (shownAll_length ds)
theorem textFrom_le : ∀ (ts : List Str) (acc : Str), (textFrom 0 acc ts).length ≤ acc.length + piled ts
  | [], acc => by show acc.length ≤ _; omega
  | t :: ts, acc => by
    have h := textFrom_length_pos ts 1 (acc ++ t) (by decide)
    have e : textFrom 0 acc (t :: ts) = textFrom 1 (acc ++ t) ts := rfl
    rw [e, h, strLen_append, piled_cons]
    omega
theorem sm_tup {n k : Nat} {ds : List PyData} (h : SmL n k ds) : Sm (ds.length * (n + 2) + 3) (k + 1) (.tuple ds) := by
  refine ⟨h.sh, ?_, ?_⟩
  · show PyData.depthAll ds + 1 ≤ k + 1
    have := h.dp
    omega
  · show (tupleText (PyData.shownAll ds)).length ≤ _
    have h1 := h.ln
    have h2 := join_le (PyData.shownAll ds)
    unfold tupleText
    rw [strLen_append, strLen_append]
    have e1 : (Str.ofString "(").length = 1 := by decide +kernel
    have e2 : (Str.ofString (if ((PyData.shownAll ds).length == 1) = true then ",)" else ")")).length ≤ 2 := by
      split <;> decide +kernel
    omega
theorem sm_lst {n k : Nat} {ds : List PyData} (h : SmL n k ds) : Sm (ds.length * (n + 2) + 3) (k + 1) (.list ds) := by
  refine ⟨h.sh, ?_, ?_⟩
  · show PyData.depthAll ds + 1 ≤ k + 1
    have := h.dp
    omega
  · show (listText (PyData.shownAll ds)).length ≤ _
    have h1 := h.ln
    have h2 := textFrom_le (PyData.shownAll ds) "["
    have e : (listText (PyData.shownAll ds)).length = (textFrom 0 "[" (PyData.shownAll ds)).length + 1 := by
      show (textFrom 0 "[" (PyData.shownAll ds) ++ "]").length = _
      rw [strLen_append]; rfl
    have e1 : (Str.ofString "[").length = 1 := by decide +kernel
    omega
/-- a dict of n entries -/
structure SmK (n k : Nat) (kvs : List (PyData × PyData)) : Prop where
  all : ∀ d ∈ kvs, Sm n k d.1 ∧ Sm n k d.2
theorem SmK.sh {n k : Nat} : ∀ {ds : List (PyData × PyData)}, SmK n k ds → PyData.showableKv ds = true
  | [], _ => rfl
  | d :: ds, h => by
    show (PyData.showable d.1 && PyData.showable d.2 && PyData.showableKv ds) = true
    rw [(h.all d List.mem_cons_self).1.sh, (h.all d List.mem_cons_self).2.sh, SmK.sh (n := n) (k := k) ⟨fun e he => h.all e (List.mem_cons_of_mem _ he)⟩]
    rfl
theorem SmK.dp {n k : Nat} : ∀ {ds : List (PyData × PyData)}, SmK n k ds → PyData.depthKv ds ≤ k
  | [], _ => Nat.zero_le _
  | d :: ds, h => by
    show max (max (PyData.depth d.1) (PyData.depth d.2)) (PyData.depthKv ds) ≤ k
    exact Nat.max_le.mpr ⟨Nat.max_le.mpr ⟨(h.all d List.mem_cons_self).1.dp, (h.all d List.mem_cons_self).2.dp⟩, SmK.dp (n := n) (k := k) ⟨fun e he => h.all e (List.mem_cons_of_mem _ he)⟩⟩
theorem SmK.ln {n k : Nat} : ∀ {ds : List (PyData × PyData)}, SmK n k ds → piled (PyData.shownKv ds) ≤ ds.length * (2 * n + 4)
  | [], _ => Nat.zero_le _
  | d :: ds, h => by
    have ih := SmK.ln (n := n) (k := k) (ds := ds) ⟨fun e he => h.all e (List.mem_cons_of_mem _ he)⟩
    have h1 := (h.all d List.mem_cons_self).1.ln
    have h2 := (h.all d List.mem_cons_self).2.ln
    show piled ((PyData.shown d.1 ++ ": " ++ PyData.shown d.2) :: PyData.shownKv ds) ≤ (ds.length + 1) * (2 * n + 4)
    have e1 : (Str.ofString ": ").length = 2 := by decide +kernel
    rw [piled_cons, Nat.succ_mul, strLen_append, strLen_append]
    omega
theorem sm_dic {n k : Nat} {ds : List (PyData × PyData)} (h : SmK n k ds) : Sm (ds.length * (2 * n + 4) + 2) (k + 1) (.dict ds) := by
  refine ⟨h.sh, ?_, ?_⟩
  · show PyData.depthKv ds + 1 ≤ k + 1
    have := h.dp
    omega
  · show (dictText (PyData.shownKv ds)).length ≤ _
    have h1 := h.ln
    have h2 := join_le (PyData.shownKv ds)
    unfold dictText
    rw [strLen_append, strLen_append]
    have e1 : (Str.ofString "{").length = 1 := by decide +kernel
    have e2 : (Str.ofString "}").length = 1 := by decide +kernel
    omega

/-! ### repr -/
def rRepr : List V → Hp → VK → Prop := fun xs H Q => ∃ (v : V) (d : PyData), xs = [v] ∧ Da H v d ∧ Sm 16000000 30 d ∧ Q (.str d.shown) H
theorem call_repr {X : Cx} (gA : X.A.guards = some []) (hu : X.A.units + 64 < cLine) (hb : ∃ o, X.base.get? sysModules = some o) : CallR X (.builtin "repr") rRepr := by
  intro pins s σ H xs us Q I r h
  obtain ⟨v, d, rfl, hd, sm, q⟩ := h
  obtain ⟨u, rfl, ru⟩ : ∃ u, us = [u] ∧ RelV v u := by
    cases r with
    | cons r1 r2 => cases r2; exact ⟨_, rfl, r1⟩
  obtain ⟨as, hr, hn⟩ := hd.reads I ru
  have hz : d.shown.length ≤ sizeLine := Nat.le_trans sm.ln (by rw [sizeLine_eq]; decide)
  have hs : sysModules ∉ as := fun hm => by
    obtain ⟨o, ho⟩ := hb
    exact hn _ hm (I.bs _ _ ho).2
  have fin : ∀ (h' : Heap) (u : Tok) (tk : Nat), (∀ b o, s.heap.get? b = some o → h'.get? b = some o) →
      EP X pins σ Q (.str d.shown u) { s with heap := h', toks := tk } := fun h' u tk k => ⟨.str d.shown, H, I.kept k, ⟨_, rfl⟩, q⟩
  have hdp := sm.dp
  cases hr with
  | none => exact PySem.P.repr_of_none (fin s.heap _ _ fun _ _ e => e)
  | bool b =>
    refine PySem.P.repr_of_bool ?_
    cases b
    · exact fin s.heap _ _ fun _ _ e => e
    · exact fin s.heap _ _ fun _ _ e => e
  | int i t => exact PySem.P.repr_of_int (by simpa [PyData.showable] using sm.sh) (fin s.heap _ _ fun _ _ e => e)
  | str x t => exact PySem.P.repr_of_str (fin s.heap _ _ fun _ _ e => e) hz
  | list h1 h2 h3 h4 => exact repr_of_reads' (.list h1 h2 h3 h4) sm.sh (fun _ => hs) gA (by omega) (fun _ _ e => e) fin hz
  | tuple h1 h2 h3 h4 => exact repr_of_reads' (.tuple h1 h2 h3 h4) sm.sh (fun _ => hs) gA (by omega) (fun _ _ e => e) fin hz
  | dict h1 h2 h3 h4 h5 => exact repr_of_reads' (.dict h1 h2 h3 h4 h5) sm.sh (fun _ => hs) gA (by omega) (fun _ _ e => e) fin hz
end Gd
set_option Elab.async false
set_option linter.all false
set_option maxRecDepth 100000
set_option maxHeartbeats 4000000
/-! An exception class of the program's own, below others of its own over ValueError: __init__(self, f): super().__init__(txt); self.f = f -/
namespace PySem
namespace ExG
open PySem.W PySem.Calls PyProof.Rows PySem.HandSPX
structure Ps where
  a : Pos
  b : Pos
  q1 : Pos
  q2 : Pos
  q3 : Pos
  q4 : Pos
  q5 : Pos
  q6 : Pos
  r1 : Pos
  r2 : Pos
  r3 : Pos
  r4 : Pos
def eA (f : Str) (o : Ps) : Arguments :=
  { posonlyargs := [], args := [{ arg := "self", annotation := none, pos := o.a }, { arg := f, annotation := none, pos := o.b }], vararg := none,
    kwonlyargs := [], kw_defaults := [], kwarg := none, defaults := [] }
def eB (f txt : Str) (o : Ps) : List Stmt :=
  [.Expr (.Call (.Attribute (.Call (.Name "super" o.q1) [] [] o.q2) "__init__" o.q3) [.Constant (.str txt) 0 o.q4] [] o.q5) o.q6,
   .Assign [.Attribute (.Name "self" o.r1) f o.r2] (.Name f o.r3) o.r4]
def eS (f : Str) : Scope :=
  { kind := .function, names := [(PySem.Str.ofString "self", .local), (f, .local), (PySem.Str.ofString "__class__", .free), (PySem.Str.ofString "super", .globalImplicit)],
    isGenerator := false, isCoroutine := false, more := [] }
/-- what the written part says of the class x at C, its field f, and its __init__ at fI -/
structure ExTxt (pr : Program) (K : Frag) (mg : Str → Option Value) (x f txt : Str) (C fI : Addr) : Prop where
  gC : mg x = some (.ref C)
  cls : ∃ nm q N bs bm sn sub ab col dd k0 k1 k2 k3 k5, K.lookup C = some (excClassObj nm q C N bs bm true sn sub ab col dd k0 k1 k2 k3 k5 "ValueError.__new__") ∧ refsVE bm = true
  sa : findIn K (.ref C) "__setattr__" = some (some (.builtin "object.__setattr__"))
  ga : findIn K (.ref C) "__getattribute__" = some (some (.builtin "BaseException.__getattribute__"))
  gg : findIn K (.ref C) "__getattr__" = some none
  noN : findIn K (.ref C) f = some none
  iC : findIn K (.ref C) "__init__" = some (some (.ref fI))
  tC : typeIn K (.ref fI) = some (.type "function")
  kC : keepIn K (.ref C) = true
  exC : subIn K (.ref C) (.type "BaseException") = some true
  tyC : typeIn K (.ref C) = some (.type "type")
  hdC : hasDictIn K C = true
  te : exmOne K (.ref C) (.ref C) = some true
  sup : ks_superIn K C C "__init__" = some (some (.builtin "ValueError.__init__"))
  subV : subIn K (.ref C) (.type "ValueError") = some true
  subm : mroIn K C (.ref C) = some true
  opq : nsIn K cStatics "thirdparty.any" = some none
  nos : nsIn K mainGlobals "super" = some none
  top : (pr.main.scope.names.lookup ("super" : Str)).isSome = false
  fn : ∃ (qual : Str) (oc : Value) (od : Option Addr) (doc pm : Value) (an : Option Addr) (cda : Addr) (ct : Value) (osl : Array (Option Value)) (cc : Addr) (o : Ps)
      (cl : Value) (cld : Option Addr) (csl : Array (Option Value)) (ccl : Value) (cdd : Option Addr) (vs : Array Value) (ccs : Array (Option Value)) (file : Str) (tf : Tok),
    K.lookup fI = some ⟨oc, od, .func (ksFn "__init__" qual (eA f o) (eB f txt o) (eS f) .none .none doc pm an (.ref cda) ct cc), osl⟩ ∧ codeIn K (.ref cda) qual = true ∧ (o.q3.endLine == o.q5.line) = true ∧
    K.lookup cc = some ⟨cl, cld, .cell (some (.ref C)), csl⟩ ∧ K.lookup cda = some ⟨ccl, cdd, .fields vs, ccs⟩ ∧ vs[2]? = some (.str file tf) ∧ ((pr.main.file : Str) == file) = true
  kf : (eS f).names.lookup f = some .local
  ks : (eS f).names.lookup (PySem.Str.ofString "super") = some .globalImplicit
  kc : (eS f).names.lookup (PySem.Str.ofString "__class__") = some .free
  fdb : (f == ("__debug__" : Str)) = false
  fse : (f == ("self" : Str)) = false
  bnd : ∀ (qual : Str) (o : Ps) (doc pm : Value) (an : Option Addr) (cd ct : Value) (cc : Addr) (u v : Value),
    bindArgs (ksFn "__init__" qual (eA f o) (eB f txt o) (eS f) .none .none doc pm an cd ct cc) ⟨[u, v], []⟩ = pure [(PySem.Str.ofString "self", u), (f, v)]

/-- what __init__ leaves of a fresh exception at x -/
structure Left (h h' : Heap) (x C dx t1 : Addr) (f : Str) (v : Value) : Prop where
  keep : ∀ b o, b ≠ x → h.get? b = some o → h'.get? b = some o
  obj : h'.get? x = some { cls := .ref C, dict := some dx, data := .fields #[.ref t1, .none, .none, .none, .bool false, .none] }
  dbig : h.objs.size ≤ dx
  dne : dx ≠ x
  ns : h'.Ns1 dx (fun y => if y = f then some v else none)

section
variable {prog : Program} {w : World} {A : Around} {E : Value → Shared → Prop} {R : Result → Shared → Prop} {s : Shared} {K : Frag} {mg : Str → Option Value} {C fI : Addr} {x f txt : Str}

theorem one_line {o : Expr} {name txt : Str} {apos pos cp : Pos} {env : Env} {k : Nat} (hl : (apos.endLine == pos.line) = true) :
    eval (.Call (.Attribute o name apos) [.Constant (.str txt) k cp] [] pos) env = (do
      let ov ← attributeBase o name env (eval o env)
      standAt apos.atName
      let (f, first) ← holding [ov] (getMethod ov name (do return (← importBound o env).getD true))
      callWith pos f first (backTo pos (starEach [.Constant (.str txt) k cp] env)) []) := by
  show (do
      let ov ← attributeBase o name env (eval o env)
      standAt apos.atName
      methodCall o name apos pos env ov (1 + 0) (backTo pos (starEach [.Constant (.str txt) k cp] env)) []) = _
  have e : ∀ ov, methodCall o name apos pos env ov (1 + 0) (backTo pos (starEach [.Constant (.str txt) k cp] env)) [] = (do
      let (f, first) ← holding [ov] (getMethod ov name (do return (← importBound o env).getD true))
      callWith pos f first (backTo pos (starEach [.Constant (.str txt) k cp] env)) []) := by
    intro ov
    have hf : methodCallForm (1 + 0) (backTo pos (starEach [.Constant (.str txt) k cp] env)) [] = true := rfl
    unfold methodCall calleeOf methodCallPos
    rw [hf]
    simp only [if_true, Bool.not_true, Bool.false_or, hl, pure_bind]
  simp only [e]
/-- the bound built-in __init__, called -/
theorem mw_call {B newId i : String} {bmB : List Value} (FB : ExcBaseFacts B newId i bmB) {h : Heap} {g : Array GenState} {d : Drawn} {t : Nat} {os : OsState} {u e t0 : Addr} {rest : List Value} {Q : Value → Shared → Prop}
    {nm q : Str} {N : Addr} {bs bm : List Value} {hdct : Bool} {sn : List Str} {sub : List Value} {ab : Bool} {col : Option Bool} {dd : Option Addr} {k0 k1 k2 k3 k5 : Option Value}
    (hC : h.get? C = some (excClassObj nm q C N bs bm hdct sn sub ab col dd k0 k1 k2 k3 k5 newId)) (he : h.get? e = some (excO C t0)) (hu : h.get? u = some (kxs_mw i e)) (hrest : rest.length ≤ sizeLine)
    (hq : ∀ h' t1, (∀ b o, b ≠ e → h.get? b = some o → h'.get? b = some o) → h'.get? e = some (excO C t1) → Q .none ⟨h', g, d, t, os⟩) :
    wpAny (model prog w) A (call (.ref u) rest) Q E ⟨h, g, d, t, os⟩ := by
  refine wpAny_call (codeAny_of_tree ?_)
  show wpAny _ A.in1 (callAny (.ref u) ⟨rest, []⟩) _ _ _
  simp only [callAny]
  refine wpAny_bind (wpAny_load hu ?_)
  have z : (Value.type "method-wrapper" == Value.type "method" || Value.type "method-wrapper" == Value.type "builtin_function_or_method" || Value.type "method-wrapper" == Value.type "method-wrapper") = true := by decide
  simp only [kxs_mw, z, if_true]
  refine KFB.if_so (by decide) ?_
  refine wpAny_bind (check_bound_init FB.toExcCallFacts hC he rfl ?_)
  refine wpAny_bind (wpAny_pure (wpAny_pure ?_))
  refine ⟨plainId_quiet FB.init.plain _, codeAny_builtin FB.initEntry ?_⟩
  exact exc_init_tree (cls := .ref C) (t0 := t0) (dv := none) (c2 := .none) (c3 := .none) (b4 := .bool false) he hrest fun h' k e' _ => hq h' _ k e'

theorem ex_init (T : ExTxt prog K mg x f txt C fI) (hns : s.heap.Ns mainGlobals mg) {mb : Str → Option Value} (hbn : s.heap.Ns builtinsNs mb) (hbb : ∀ x : Str, x ≠ "__name__" → mb x = bootBuiltins x)
    {e t0 : Addr} {v : Value} (X : K.In s.heap) (hlim : s.heap.NoLimit) (hx : s.heap.get? e = some (excO C t0)) (hnx : K.lookup e = none) (hroom : A.depth < recursionLimit)
    (hq : ∀ h' tk dx t1, Left s.heap h' e C dx t1 f v → R (.ok (.ret .none)) { s with heap := h', toks := tk }) :
    codeAny (model prog w) A (.call (.ref fI) ⟨[.ref e, v], []⟩) R s := by
  obtain ⟨qual, oc, od, doc, pm, an, cda, ct, osl, cc, o, cl, cld, csl, ccl, cdd, vs, ccs, file, tf, hfn, hcd, hol, hcc, hcda, hvs, hfile⟩ := T.fn
  obtain ⟨nm, q, N, bs, bm, sn, sub, ab, col, dd, k0, k1, k2, k3, k5, hC, hbm⟩ := T.cls
  have hcl : clsIn K C = some { name := nm, bases := bs, mro := .ref C :: bm, ns := N, qualname := q, hasDict := true, slotNames := sn, subclasses := sub, abstract := ab, collection := col, hasDel := false } := by unfold clsIn; rw [hC] <;> rfl
  have lk1 : ∀ (a b : Value), ([((("self" : Str)), a), (f, b)] : List (Str × Value)).reverse.lookup f = some b := fun a b => by
    show ([(f, b), (("self" : Str), a)] : List (Str × Value)).lookup f = some b
    simp [List.lookup]
  have lk0 : ∀ (a b : Value), ([((("self" : Str)), a), (f, b)] : List (Str × Value)).reverse.lookup (PySem.Str.ofString "self") = some a := fun a b => by
    show ([(f, b), (("self" : Str), a)] : List (Str × Value)).lookup (PySem.Str.ofString "self") = some a
    have z : (("self" : Str) == f) = false := by
      have := T.fse
      rw [beq_eq_false_iff_ne] at this ⊢
      exact fun y => this y.symm
    simp [List.lookup, z]
  refine ks_codeAny_call_defAt (fd := ksFn "__init__" qual (eA f o) (eB f txt o) (eS f) .none .none doc pm an (.ref cda) ct cc) (body := eB f txt o) (binds := [(PySem.Str.ofString "self", .ref e), (f, v)]) hroom (X _ _ hfn) rfl hlim (codeRec_of X hcd) rfl
    (BindsTo.of_eq (T.bnd _ _ _ _ _ _ _ _ _ _)) ?_ ?_ (fun h1 hns1 k1 => ?_) rfl rfl rfl
  · intro y hy
    have hy' : y ∈ [(PySem.Str.ofString "self", NameKind.local), (f, .local), (PySem.Str.ofString "__class__", .free), (PySem.Str.ofString "super", .globalImplicit)] := hy
    simp only [List.mem_cons, List.not_mem_nil, or_false] at hy'
    rcases hy' with rfl | rfl | rfl | rfl <;> simp
  · intro y hy
    simp only [List.mem_cons, List.not_mem_nil, or_false] at hy
    rcases hy with rfl | rfl
    · rfl
    · exact T.kf
  · have X1 : K.In h1 := X.keeps k1
    have hx1 := k1 _ _ hx
    obtain ⟨oD, hD1, hD2⟩ : ∃ oD : Obj, h1.get? C = some oD ∧ ∃ cdD, oD.data = .cls cdD := ⟨_, X1 _ _ hC, _, rfl⟩
    obtain ⟨cdD, hD2⟩ := hD2
    have nC : e ≠ C := fun z => by
      rw [z] at hnx
      rw [hC] at hnx
      cases hnx
    obtain ⟨hp, g, d, tk, os⟩ := s
    -- super().__init__(txt)
    show wpAt _ _ _ (execs (_ :: _) _) _ _ _
    refine ks_wpAt_execs_cons (ks_wpAt_Expr_any ?_ rfl rfl)
    refine ks_wpAt_MethodCall (pl := do return (← importBound _ _).getD true) ?_ (one_line hol)
    refine ks_wpAt_super_base (env := ksEnv qual (eS f) hp.objs.size fI (.ref cda) cc) T.ks T.kc (by decide +kernel) rfl (X1 _ _ hfn) rfl rfl rfl (X1 _ _ hcda) rfl hvs hfile T.top ?_
    refine ks_loadName_global rfl T.ks (loadGlobal_builtin (env := ksEnv qual (eS f) hp.objs.size fI (.ref cda) cc) (hns.keeps k1) (mg_none_of X hns T.nos) (hbn.keeps k1) ((hbb _ (by decide +kernel)).trans PyProof.Rows.Boot.«super») ⟨rfl, ?_⟩)
    refine wpAny_loadName_free rfl T.kc rfl ⟨_, X1 _ _ hcc, rfl⟩ ?_
    refine wpAny_loadName_local rfl rfl hns1 (lk0 _ _) ?_
    refine ks_wpAny_isType_cls hD1 hD2 ⟨rfl, ?_⟩
    refine ks_wpAny_call_super hD1 hD2 hx1 rfl (fun c e => by cases e) (looks_mroIn X1 T.subm) (fun h2 e2 k2 => ?_)
    have X2 : K.In h2 := X1.keeps k2
    have I2 : InstAt h2 e (excO C t0) C none := ⟨k2 _ _ hx1, rfl, rfl, trivial⟩
    have hI : Looks (model prog w) h2 (isInstance (.ref e) (.type "ValueError")) true := I2.type.andThen (looks_subIn X2 T.subV)
    have hsup : alongIn K "__init__" (((Value.ref C :: bm).dropWhile (· != .ref C)).drop 1) = some (some (.builtin "ValueError.__init__")) := by
      have z := T.sup
      unfold ks_superIn at z
      rw [hcl] at z
      exact z
    refine kxs_getMethod kxs_ValueError e2 (looks_opaque X2 T.opq) (l₀ := .ref C :: bm) ?_ rfl X2 hsup hI nC (by decide +kernel) ?_
    · exact fun A Q E s k q => wpAny_bind ((looks_clsIn X2 hcl) A _ E s k (wpAny_pure q))
    refine kxs_callWith (i := "ValueError.__init__") (x := e) rfl (evalArgs_plain ?_)
    have hu : (h2.push (kxs_mw "ValueError.__init__" e)).get? h2.objs.size = some (kxs_mw "ValueError.__init__" e) := Heap.get?_push_at rfl rfl
    show wpAny _ _ (spliced [(false, eval (.Constant (.str txt) 0 o.q4) (ksEnv qual (eS f) hp.objs.size fI (.ref cda) cc))]) _ _ _
    refine Calls.spliced_cons ?_
    refine wpAny_Constant_str ?_
    refine Calls.spliced_nil ?_
    refine ⟨hu, ?_⟩
    have k3 : ∀ b o, h2.get? b = some o → (h2.push (kxs_mw "ValueError.__init__" e)).get? b = some o := fun b o z => Heap.get?_push_of_some _ z
    refine mw_call (C := C) PySem.F.excBase_ValueError (k3 _ _ (X2 _ _ hC)) (k3 _ _ I2.at_) hu (by show 1 ≤ sizeLine; rw [sizeLine_eq]; decide) (fun h4 t4 k4 hx4 => ?_)
    -- self.f = f
    have k14 : ∀ b o, b ≠ e → h1.get? b = some o → h4.get? b = some o := fun b o hb z => k4 b o hb (k3 _ _ (k2 _ _ z))
    have X4 : K.In h4 := fun b o z => k14 b o (fun y => by rw [y, hnx] at z; cases z) (X1 b o z)
    have ns4 : h4.Ns hp.objs.size (fun y => ([(PySem.Str.ofString "self", Value.ref e), (f, v)] : List (Str × Value)).reverse.lookup y) := by
      obtain ⟨oL, es, ep, hL, r⟩ := hns1
      exact ⟨oL, es, ep, k14 _ _ (Nat.ne_of_gt (Heap.lt_size hx)) hL, r⟩
    show wpAt _ _ _ (execs _ _) _ _ _
    refine wpAt_of_wpAny ?_
    show wpAny _ _ (execs (_ :: _) _) _ _ _
    refine wpAny_execs_cons (plainObj_wpAny_Assign_Attribute ?_)
    refine wpAny_Name (wpAny_loadName_local rfl T.kf ns4 (lk1 _ _) ?_) T.fdb
    refine wpAny_Name (wpAny_loadName_local rfl rfl ns4 (lk0 _ _) ?_) (by decide +kernel)
    refine set_plain X4 (ox := excO C t4) (od := none) ⟨hx4, rfl, rfl, trivial⟩ T.sa ?_
    refine exc_osa X4 hx4 hcl (show refsVE (.ref C :: bm) = true from hbm) rfl T.noN (fun h5 tk5 dx k5 dn dne hx5 hn5 => ?_)
    show wpAny _ _ (execs _ _) _ _ _
    refine wpAny_execs_nil (hq h5 tk5 dx t4 ⟨fun b o hb z => k5 b o hb (k14 b o hb (k1 b o z)), hx5, ?_, dne, hn5⟩)
    have z1 : hp.objs.size < h4.objs.size := ns4.lt
    exact Nat.le_of_lt (Nat.lt_of_lt_of_le z1 dn)

/-- one that has been made -/
structure Made (h h' : Heap) (e C d : Addr) (f : Str) (v : Value) : Prop where
  keep : ∀ b o, h.get? b = some o → h'.get? b = some o
  new : h.objs.size ≤ e
  obj : ∃ oe vs, h'.get? e = some oe ∧ oe.cls = .ref C ∧ oe.dict = some d ∧ oe.data = .fields vs ∧ vs[1]? = some .none
  dbig : h.objs.size ≤ d
  dne : d ≠ e
  ns : h'.Ns1 d (fun y => if y = f then some v else none)

theorem ex_made (T : ExTxt prog K mg x f txt C fI) (hns : s.heap.Ns mainGlobals mg) {mb : Str → Option Value} (hbn : s.heap.Ns builtinsNs mb) (hbb : ∀ x : Str, x ≠ "__name__" → mb x = bootBuiltins x)
    {v : Value} (X : K.In s.heap) (hlim : s.heap.NoLimit) (hroom : A.depth + 1 < recursionLimit)
    (hq : ∀ h' tk e d, Made s.heap h' e C d f v → R (.ok (.ret (.ref e))) { s with heap := h', toks := tk }) :
    codeAny (model prog w) A (.call (.ref C) ⟨[v], []⟩) R s := by
  obtain ⟨nm, q, N, bs, bm, sn, sub, ab, col, dd, k0, k1, k2, k3, k5, hC, hbm⟩ := T.cls
  obtain ⟨hp, g, dr, tk, os⟩ := s
  have k : ∀ b o, hp.get? b = some o → ((hp.push (kdv_tup [v])).push (excO C hp.objs.size)).get? b = some o :=
    fun b o e => Heap.get?_push_of_some _ (Heap.get?_push_of_some _ e)
  have hget : ((hp.push (kdv_tup [v])).push (excO C hp.objs.size)).get? (hp.objs.size + 1) = some (excO C hp.objs.size) := by heap_get
  have hnx : K.lookup (hp.objs.size + 1) = none := by
    cases e : K.lookup (hp.objs.size + 1) with
    | none => rfl
    | some o =>
      have z : hp.get? (hp.objs.size + 1) = some o := X _ _ e
      exact absurd (Nat.lt_of_succ_lt (Heap.lt_size z)) (Nat.lt_irrefl _)
  refine call_own F.excBase_ValueError (fun X => refsVE_contains X bm hbm) (X _ _ hC) (looks_findIn X T.iC) (fun self => bind_fn X self T.tC) (by show 1 ≤ sizeLine; rw [sizeLine_eq]; decide) ?_
  refine ex_init (s := ⟨(hp.push (kdv_tup [v])).push (excO C hp.objs.size), g, dr, tk, os⟩) T (hns.keeps k) (hbn.keeps k) hbb (X.keeps k) (hlim.keeps k) hget hnx ?_ ?_
  · show A.depth + 1 < recursionLimit
    exact hroom
  · rintro h' tk' dx t1 ⟨k', hx, dn, dne, hn⟩
    have old : ∀ b o, hp.get? b = some o → h'.get? b = some o := fun b o e => k' b o (Nat.ne_of_lt (Nat.lt_succ_of_lt (Heap.lt_size e))) (k b o e)
    have z : hp.objs.size + 1 + 1 ≤ dx := by
      have q := dn
      first
        | exact q
        | (simpa only [Heap.size_push] using q)
        | (rw [Heap.size_push, Heap.size_push] at q; exact q)
    exact ⟨rfl, hq h' tk' (hp.objs.size + 1) dx ⟨old, Nat.le_succ _, ⟨_, _, hx, rfl, rfl, rfl, rfl⟩, Nat.le_trans (Nat.le_trans (Nat.le_succ _) (Nat.le_succ _)) z, dne, hn⟩⟩
end
end ExG
end PySem

namespace Gd
open PySem PySem.Spec PyProof.Rows L2 PySem.ExG
theorem relO_one {v : V} {v' : Value} {n : Str} (r : RelV v v') (y : Str) : RelO (List.lookup y [(n, v)]) (if y = n then some v' else none) := by
  by_cases h : y = n
  · subst h
    have q : List.lookup y [(y, v)] = some v := by simp [List.lookup]
    rw [if_pos rfl, q]
    exact r
  · have qw : (y == n) = false := beq_eq_false_iff_ne.mpr h
    have q : List.lookup y [(n, v)] = none := by simp [List.lookup, qw]
    rw [if_neg h, q]
    trivial
section
variable {X : Cx} {C fI : Addr} {x f txt : Str}
/-- x(e): the error's own dict at d -/
def tMkEx (C : Addr) (f : Str) (ta : TA) : L2.St → Hp → XK → Prop := fun σ H Q => ta σ H fun vs H1 => ∃ v, vs = [v] ∧ ∀ d, H1 d = none → Q (.ref C) (some d) (upd H1 d (.xd [(f, v)]))
theorem pmk_ex {a : Expr} {ta : TA} {p pos : Pos} {k : Nat} (T : ExTxt X.prog X.K X.mg x f txt C fI) (hr : Room k X.A) (ha : PA X [a] ta) (hg : Gl X x)
    (hdb : (x == ("__debug__" : Str)) = false := by decide)
    (he : starEach (a :: []) X.env = (false, eval a X.env) :: starEach [] X.env := by rfl) (hpl : (backTo pos (starEach [] X.env)).any (·.1) = false := by rfl) :
    PMk X (.Call (.Name x p) [a] [] pos) (tMkEx C f ta) := by
  intro pins s σ H Q I h
  refine wpAny_Call_Name_kw (ld_glob I hg T.gC ?_ hdb)
  refine PySem.W.callWith_K (h₀ := X.base) I.ok.mod.kin T.kC (thn (ha.run pos pins s σ H _ I h) fun us s1 hh => ?_) he hpl
  obtain ⟨vs, H1, I1, r1, v, ev, q1⟩ := hh
  subst ev
  refine ⟨I1.kIn, ?_⟩
  cases r1 with
  | cons rv rn =>
    rename_i v' us'
    cases rn
    show wpAny _ _ (call (.ref C) [v']) _ _ _
    have hlim := I1.nolimit
    obtain ⟨mb, hbn, hbb⟩ := I1.ok.mod.blt
    have hbn' := hbn.keeps I1.bk
    have hns := I1.ok.mod.glob.keeps I1.bk
    have XK := I1.kIn
    obtain ⟨hp, g, dr, tk, os⟩ := s1
    refine wpAny_call (ex_made T hns hbn' hbb XK hlim (by have := hr.dp; omega) ?_)
    intro h' tk' e d M
    show MkP X pins σ Q (.ref e) ⟨h', g, dr, tk', os⟩
    obtain ⟨oe, fv, hoe, hc, hd, hdat, h1⟩ := M.obj
    have hn := M.ns
    obtain ⟨G', g1, g2⟩ := restrict h' fun b => decide (b ≠ e)
    have gk : ∀ b, b ≠ e → G'.get? b = h'.get? b := fun b hb => g1 b (decide_eq_true hb)
    have ge : G'.get? e = none := g2 e (by simp)
    have old : ∀ b o, hp.get? b = some o → G'.get? b = some o := fun b o q => (gk b (Nat.ne_of_lt (Nat.lt_of_lt_of_le (Heap.lt_size q) M.new))).trans (M.keep b o q)
    have ob : ObjOk X.prog X.w (upd H1 d (.xd [(f, v)])) G' d (.xd [(f, v)]) := ⟨_, hn.at (fun o q => (gk d M.dne).trans q), fun y => relO_one rv y⟩
    have J : Inv X pins σ (upd H1 d (.xd [(f, v)])) ⟨G', g, dr, tk', os⟩ := I1.laid (t' := tk') old M.dbig ob
    refine ⟨e, oe, fv, ⟨G', g, dr, tk', os⟩, _, .ref C, some d, rfl, J, fun b o q => ?_, ge, hoe, ⟨hc, hd⟩, hdat, h1, ?_, rfl, I1.bare, raises_own T.exC T.tyC, q1 d (I1.hok.fresh M.dbig)⟩
    · by_cases hb : b = e
      · have q' : G'.get? b = some o := q
        rw [hb, ge] at q'
        cases q'
      · exact (gk b hb).symm.trans q
    · rw [upd_ne (Ne.symm M.dne)]
      exact I1.hok.fresh M.new
/-- raise x(e) -/
def tRaiseEx (C : Addr) (f : Str) (W : WX) (ta : TA) : TS := fun _ σ H => tMkEx C f ta σ H fun cls d H' => W cls d σ H'
theorem ps_raiseEx {a : Expr} {ta : TA} {W : WX} {p pos pos2 : Pos} {k : Nat} (hc : X.calm = true) (T : ExTxt X.prog X.K X.mg x f txt C fI) (hr : Room k X.A) (tk : Takes X W) (ha : PA X [a] ta) (hg : Gl X x)
    (hdb : (x == ("__debug__" : Str)) = false := by decide)
    (he : starEach (a :: []) X.env = (false, eval a X.env) :: starEach [] X.env := by rfl) (hpl : (backTo pos (starEach [] X.env)).any (·.1) = false := by rfl) :
    PS X (.Raise (some (.Call (.Name x p) [a] [] pos)) none pos2) (tRaiseEx C f W ta) := ps_raise hc tk (pmk_ex T hr ha hg hdb he hpl)
/-- n.f, n the exception that the suite holds (at a; its class cls, its dict d) -/
def tByEx (C : Addr) (f : Str) (a : Addr) (cls : Value) (d : Option Addr) (te : TE) : TE := fun σ H Q => te σ H fun y H1 => y = .ref a ∧ cls = .ref C ∧ ∃ (dd : Addr) (v : V), d = some dd ∧ H1 dd = some (.xd [(f, v)]) ∧ Q v H1
theorem pe_byEx {a : Addr} {oe : Obj} {cls : Value} {d : Option Addr} {pn : List (Addr × Obj)} {e : Expr} {te : TE} {pos : Pos} (T : ExTxt X.prog X.K X.mg x f txt C fI) (hz : Zc cls d oe) (hf : ∃ vs, oe.data = .fields vs) (he : PE (X.suite a ((a, oe) :: pn)) e te)
    (hb : attributeBase e f X.env (eval e X.env) = eval e X.env := by rfl) :
    PE (X.suite a ((a, oe) :: pn)) (.Attribute e f pos) (tByEx C f a cls d te) := by
  refine ⟨fun pins s σ H Q I h => ?_⟩
  refine attr_of hb (thn (he.run pins s σ H _ I h) fun u s1 hh => ?_)
  obtain ⟨y, H1, I1, rx, ex, ec, dd, v, ed, ea, q⟩ := hh
  subst ex
  obtain rfl : u = Value.ref a := rx
  subst ec
  subst ed
  obtain ⟨ha, _⟩ := I1.pin (a, oe) (List.mem_append_left _ List.mem_cons_self)
  obtain ⟨vs, hd⟩ := hf
  have hx : ObjOk X.prog X.w H1 s1.heap dd (.xd [(f, v)]) := I1.hok dd _ ea
  obtain ⟨mA, hns, hr⟩ := hx
  obtain ⟨od, ho, hl⟩ := lookIn_ns hns
  have l : List.lookup f [(f, v)] = some v := by simp [List.lookup]
  obtain ⟨u, hu, ru⟩ := RelO.some_of (v := v) (o := mA f) (by rw [← l]; exact hr f)
  have J : PySem.W.InstAt s1.heap a oe C (some od) := ⟨ha, hz.1, by unfold PySem.W.notCls; rw [hd] <;> rfl, by rw [hz.2]; exact ho⟩
  exact HandSPX.exc_get I1.kIn J T.ga T.gg T.exC (PySem.W.findObj_own T.hdC T.noN rfl (by rw [hl, hu])) (handed_of ru) ⟨v, H1, I1.tok _, ru, q⟩
end
end Gd
set_option Elab.async false
set_option linter.all false
set_option maxRecDepth 100000
set_option maxHeartbeats 4000000
namespace Gd
open PySem PySem.Spec PyProof.Rows L2

/-! ### the law's call from its promise, where nothing is shown around -/
section
variable {pr : Program} {w : World} {K : PySem.W.Frag} {mg mb : Str → Option Value} {k : Nat} {fa a : Addr} {fd : FuncData} {x : Str} {sp : Sp}
  {s1 : Shared} {vs : List Value} {ns : List Int}

/-- from one abstract heap that tracks nothing but the script -/
theorem top_core (KX : K.In s1.heap) (hns : s1.heap.Ns mainGlobals mg) (hbn : s1.heap.Ns builtinsNs mb)
    (hbb : ∀ x : Str, x ≠ "__name__" → mb x = bootBuiltins x) (hlim : s1.heap.NoLimit) (hgen : s1.gens = #[]) (hsm : ∃ mm, s1.heap.Ns sysModules mm)
    (ha : s1.heap.get? a = some { cls := .type "list", data := .seq vs.toArray }) (hr : Room k callerA)
    (F : ∀ base : Heap, K.In base → base.Ns mainGlobals mg → (∃ o, base.get? sysModules = some o) → FnG pr w K mg base CX0 k fa fd [x] sp)
    (hbind : ∀ (s : Shared) (u : Value), BindsTo s fd ⟨[u], []⟩ [(x, u)])
    (H : Hp) (hO : Only H) (hsp : sp [.ref a] H (fun v _ => v = .bl true) fun _ _ _ => False)
    (hok : HOk pr w H s1.heap) (hA : ∀ b, H b ≠ none → b = a) (hK : H a ≠ none → K.lookup a = none) :
    codeAny (model pr w) callerA (.call (.ref fa) ⟨[.ref a], []⟩)
      (fun r s' => r = .ok (.ret (.bool true)) ∧ OldK s1.heap s'.heap ∧ s'.os = s1.os ∧ AllBare s'.gens) s1 := by
  have keepB : ∀ {b : Addr} {o : Obj}, s1.heap.get? b = some o → H b = none → (hidT s1.heap H).get? b = some o := fun e n => hidT_get e n
  have isA : ∀ {b : Addr} {u : HO}, H b = some u → b = a := fun {b u} q => hA b (by rw [q]; exact Option.some_ne_none _)
  have nsB : ∀ {b : Addr} {m : Str → Option Value}, s1.heap.Ns b m → (hidT s1.heap H).Ns b m := by
    rintro b m ⟨o, es, ep, e, d, r⟩
    refine ⟨o, es, ep, keepB e ?_, d, r⟩
    cases q : H b with
    | none => rfl
    | some u =>
      have z := isA q
      subst z
      rw [ha] at e
      cases e
      cases d
  have inB : K.In (hidT s1.heap H) := by
    intro b o e
    refine keepB (KX b o e) ?_
    cases q : H b with
    | none => rfl
    | some u =>
      have z := isA q
      subst z
      rw [hK (by rw [q]; exact Option.some_ne_none _)] at e
      cases e
  have smB : ∃ o, (hidT s1.heap H).get? sysModules = some o := by
    obtain ⟨mm, hm⟩ := hsm
    obtain ⟨o, _, _, e, _⟩ := nsB hm
    exact ⟨o, e⟩
  obtain ⟨mc, l1, l2⟩ := hlim
  have modB : L2.Mod K mg (hidT s1.heap H) := ⟨inB, nsB hns, ⟨mb, nsB hbn, hbb⟩, ⟨mc, nsB l1, l2⟩⟩
  have e0 : Env0 pr w K mg (hidT s1.heap H) callerA [] s1 H :=
    { frames := rfl, mod := modB, bs := fun b o e => of_hidT e, bsz := Nat.le_of_eq (hidT_size _ _), funs := trivial,
      frf := fun b hb => absurd (show b ∈ ([] : List Addr) from hb) (by simp), hok := hok, bare := .of_eq hgen }
  refine codeAny_mono ((F _ inB (nsB hns) smB).run callerA [] s1 H ⟨[.ref a], []⟩ [.ref a] [.ref a] _ _ rfl hr e0 (hbind s1 (.ref a)) (.cons rfl .nil) hsp) ?_
  intro r s' h
  cases r with
  | error e => exact False.elim h
  | ok fl =>
    cases fl with
    | next => exact False.elim h
    | brk => exact False.elim h
    | cont => exact False.elim h
    | ret u =>
      obtain ⟨v, H', os, bare, un, hok', r', q⟩ := h
      have q' : v = .bl true := q
      subst q'
      obtain rfl : u = Value.bool true := r'
      refine ⟨rfl, OldK.of_keep ?_, os, bare⟩
      intro b o e
      cases q : H b with
      | none => exact un.keep b o e q (fun z => absurd (show b ∈ ([] : List Addr) from z) (by simp)) (by simp)
      | some u =>
        rcases hO b with z | ⟨ob, xs, z⟩
        · rw [q] at z
          cases z
        · obtain ⟨e1, _⟩ := hok b _ z
          obtain ⟨e2, _⟩ := hok' b _ (un.frzs b ob _ z)
          rw [e] at e1
          cases e1
          exact e2

theorem top_call (KX : K.In s1.heap) (hns : s1.heap.Ns mainGlobals mg) (hbn : s1.heap.Ns builtinsNs mb)
    (hbb : ∀ x : Str, x ≠ "__name__" → mb x = bootBuiltins x) (hlim : s1.heap.NoLimit) (hgen : s1.gens = #[]) (hsm : ∃ mm, s1.heap.Ns sysModules mm)
    (ha : s1.heap.get? a = some { cls := .type "list", data := .seq vs.toArray }) (hi : IntsAre vs ns) (hl : ns.length ≤ sizeLine) (hr : Room k callerA)
    (F : ∀ base : Heap, K.In base → base.Ns mainGlobals mg → (∃ o, base.get? sysModules = some o) → FnG pr w K mg base CX0 k fa fd [x] sp)
    (hbind : ∀ (s : Shared) (u : Value), BindsTo s fd ⟨[u], []⟩ [(x, u)])
    (hsp : ∀ H : Hp, Only H → SqL K H a (ns.map V.int) → sp [.ref a] H (fun v _ => v = .bl true) fun _ _ _ => False) :
    codeAny (model pr w) callerA (.call (.ref fa) ⟨[.ref a], []⟩)
      (fun r s' => r = .ok (.ret (.bool true)) ∧ OldK s1.heap s'.heap ∧ s'.os = s1.os ∧ AllBare s'.gens) s1 := by
  have rv := vals_ints hi
  have ln := hi.length
  cases hk : K.lookup a with
  | some o =>
    have e := KX a o hk
    rw [ha] at e
    cases e
    have O : Only (fun _ => none) := fun _ => .inl rfl
    refine top_core KX hns hbn hbb hlim hgen hsm ha hr F hbind _ O (hsp _ O ?_) ?_ ?_ ?_
    · exact .inr ⟨_, vs.toArray, _, hk, rfl, rfl, rfl, by rw [List.size_toArray, ln]; exact hl, by simpa using rv⟩
    · intro b u z
      have z' : (none : Option HO) = some u := z
      cases z'
    · exact fun b z => absurd rfl z
    · exact fun z => absurd rfl z
  | none =>
    let H : Hp := fun b => if b = a then some (.frz { cls := .type "list", data := .seq vs.toArray } (.lst (ns.map V.int))) else none
    have Ha : H a = some (.frz { cls := .type "list", data := .seq vs.toArray } (.lst (ns.map V.int))) := if_pos rfl
    have Hn : ∀ b, b ≠ a → H b = none := fun b h => if_neg h
    have O : Only H := fun b => by
      by_cases hb : b = a
      · subst hb
        exact .inr ⟨_, _, Ha⟩
      · exact .inl (Hn b hb)
    refine top_core KX hns hbn hbb hlim hgen hsm ha hr F hbind H O (hsp H O (.inl (.inr ⟨_, Ha⟩))) ?_ ?_ (fun _ => hk)
    · intro b u z
      by_cases hb : b = a
      · subst hb
        rw [Ha] at z
        cases z
        exact ⟨ha, by rw [List.length_map]; exact hl, vs, _, rv, ha⟩
      · rw [Hn b hb] at z
        cases z
    · intro b z
      by_cases hb : b = a
      · exact hb
      · exact absurd (Hn b hb) z
end

theorem walkG {l : PySem.W.OpenLaw} {n k : Nat} {q : Program} {loose : List Str} {XP : (Str → Option Value) → Heap → Prop}
    {YP : World → Heap → Prop} {d : DefRec} {K : Params → PySem.W.Frag} {sp : World → Sp} {x : Str}
    (him : importsNone q = true) (hn : l.most = some n) (hn2 : n ≤ sizeLine) (hdf : d.params.defaults = []) (hr : Room k callerA)
    (hY : ∀ (w : World) (h : Heap), YP w h → (K w.params).In h)
    (F : ∀ (w : World) (mg : Str → Option Value) (fa : Addr) (h : Heap), (K w.params).In h → h.Ns mainGlobals mg → mg d.name = some (.ref fa) →
      ∃ fd : FuncData, (∀ (s : Shared) (u : Value), BindsTo s fd ⟨[u], []⟩ [(x, u)]) ∧
        ∀ base : Heap, (K w.params).In base → base.Ns mainGlobals mg → (∃ o, base.get? sysModules = some o) → FnG l.prog w (K w.params) mg base CX0 k fa fd [x] (sp w))
    (hsp : ∀ (w : World) (H : Hp) (a : Addr) (ns : List Int), ns.length ≤ n → Only H → SqL (K w.params) H a (ns.map V.int) →
      sp w [.ref a] H (fun v _ => v = .bl true) fun _ _ _ => False) :
    PySem.W.WalkO q loose XP YP l.row.toRowW d [] (fun f vs => PySem.call f vs) := by
  refine Att.attach_call hn hdf ?_
  intro w s0 s1 mg mb fa o pm cd doc a vs ns G Y ho hd hcd hmg hobj hints hlen hg
  obtain ⟨fd, hb, hF⟩ := F w mg fa _ (hY w _ Y) G.T.g hmg
  exact top_call (hY w _ Y) G.T.g G.T.b G.T.builtins G.T.nolimit hg (by obtain ⟨mm, hm, _⟩ := (G.T.seer him).mods; exact ⟨mm, hm⟩) hobj hints (Nat.le_trans hlen hn2) hr hF hb
    fun H hO hS => hsp w H a ns hlen hO hS
end Gd
set_option Elab.async false
set_option linter.all false
set_option maxRecDepth 100000
set_option maxHeartbeats 4000000
namespace Gd
open PySem PySem.Spec PyProof.Rows L2 LamX

/-! ### the law's call from its promise; some code objects have tables, and things are shown -/
/-- an empty table of code objects -/
abbrev tblO : Obj := { cls := .none, data := .fields #[] }
/-- the tables at ts, the script at a if it is tracked: nothing else -/
structure OnlyT (ts : List Addr) (a : Addr) (H : Hp) : Prop where
  tb : ∀ p ∈ ts, H p = some (.tbl #[])
  el : ∀ b u, H b = some u → b ∈ ts ∨ (b = a ∧ ∃ o xs, u = .frz o (.lst xs))
section
variable {pr : Program} {w : World} {K : PySem.W.Frag} {mg mb : Str → Option Value} {k : Nat} {fa a : Addr} {cs : List (Addr × Addr)} {fd : FuncData} {x : Str} {sp : Sp}
  {s1 : Shared} {vs : List Value} {ns : List Int}
theorem core_tab (KX : K.In s1.heap) (hns : s1.heap.Ns mainGlobals mg) (hbn : s1.heap.Ns builtinsNs mb)
    (hbb : ∀ x : Str, x ≠ "__name__" → mb x = bootBuiltins x) (hlim : s1.heap.NoLimit) (hgen : s1.gens = #[]) (hsm : ∃ mm, s1.heap.Ns sysModules mm)
    (tO : ∀ p ∈ cs, s1.heap.get? p.2 = some tblO) (tK : ∀ p ∈ cs, K.lookup p.2 = none) (tC : ∀ p ∈ cs, PySem.W.CodeHd s1.heap p.1 p.2)
    (bmn : ∃ (bm : Addr) (ob : Obj), mg "__builtins__" = some (.ref bm) ∧ bm ≠ builtinsNs ∧ s1.heap.get? bm = some ob ∧ ob.cls = .type "module" ∧ ob.dict = some builtinsNs ∧ ob.data = .plain)
    (ha : s1.heap.get? a = some { cls := .type "list", data := .seq vs.toArray }) (hr : Room k callerA)
    (F : ∀ base : Heap, K.In base → base.Ns mainGlobals mg → (∃ o, base.get? sysModules = some o) → (∀ p ∈ cs, TabB base mg p.1 p.2) → FnG pr w K mg base CX0 k fa fd [x] sp)
    (hbind : ∀ (s : Shared) (u : Value), BindsTo s fd ⟨[u], []⟩ [(x, u)])
    (H : Hp) (hO : OnlyT (cs.map Prod.snd) a H) (hsp : sp [.ref a] H (fun v _ => v = .bl true) fun _ _ _ => False)
    (hok : HOk pr w H s1.heap) (hK : H a ≠ none → K.lookup a = none) :
    codeAny (model pr w) callerA (.call (.ref fa) ⟨[.ref a], []⟩)
      (fun r s' => r = .ok (.ret (.bool true)) ∧ OldK s1.heap s'.heap ∧ s'.os = s1.os ∧ AllBare s'.gens) s1 := by
  have tO' : ∀ b ∈ cs.map Prod.snd, s1.heap.get? b = some tblO := by
    intro b hb
    obtain ⟨p, hp, rfl⟩ := List.mem_map.mp hb
    exact tO p hp
  -- what is neither the script nor a table is not tracked
  have clear : ∀ {b : Addr} {o : Obj}, s1.heap.get? b = some o → o ≠ { cls := .type "list", data := .seq vs.toArray } → o ≠ tblO → H b = none := by
    intro b o e n1 n2
    rcases q : H b with _ | u
    · rfl
    · rcases hO.el b u q with z | ⟨z, _⟩
      · exact absurd (Option.some.inj (e.symm.trans (tO' b z))) n2
      · subst z
        exact absurd (Option.some.inj (e.symm.trans ha)) n1
  have up : ∀ {b : Addr} {o : Obj}, s1.heap.get? b = some o → H b = none → (hidT s1.heap H).get? b = some o := fun e n => hidT_get e n
  have nsB : ∀ {b : Addr} {m : Str → Option Value}, s1.heap.Ns b m → (hidT s1.heap H).Ns b m := by
    rintro b m ⟨o, es, ep, e, d, r⟩
    refine ⟨o, es, ep, up e (clear e ?_ ?_), d, r⟩
    · rintro rfl
      cases d
    · rintro rfl
      cases d
  have inB : K.In (hidT s1.heap H) := by
    intro b o e
    refine up (KX b o e) ?_
    rcases q : H b with _ | u
    · rfl
    · exfalso
      rcases hO.el b u q with z | ⟨z, _⟩
      · obtain ⟨p, hp, rfl⟩ := List.mem_map.mp z
        rw [tK p hp] at e
        cases e
      · subst z
        rw [hK (by rw [q]; exact Option.some_ne_none _)] at e
        cases e
  have smB : ∃ o, (hidT s1.heap H).get? sysModules = some o := by
    obtain ⟨mm, hm⟩ := hsm
    obtain ⟨o, _, _, e, _⟩ := nsB hm
    exact ⟨o, e⟩
  have neT : ∀ {b : Addr} {m : Str → Option Value}, s1.heap.Ns b m → ∀ p ∈ cs, b ≠ p.2 := by
    rintro b m ⟨o, es, ep, e, d, _⟩ p hp rfl
    rw [tO p hp] at e
    cases e
    cases d
  have tbs : ∀ p ∈ cs, TabB (hidT s1.heap H) mg p.1 p.2 := by
    intro p hp
    refine ⟨?_, ?_, neT hns p hp⟩
    · obtain ⟨o, us, file, tf, fl, tg, inF, tx, tt, e1, r1, r2, r3, rest⟩ := tC p hp
      refine ⟨o, us, file, tf, fl, tg, inF, tx, tt, up e1 (clear e1 ?_ ?_), r1, r2, r3, rest⟩
      · rintro rfl
        cases r2
      · rintro rfl
        cases r2
        simp at r3
    · obtain ⟨bm, ob, b1, b2, b3, b4, b5, b6⟩ := bmn
      refine ⟨bm, ob, b1, b2, ?_, ?_, up b3 (clear b3 ?_ ?_), b4, b5, b6⟩
      · rintro rfl
        obtain ⟨o, es, ep, e, d, _⟩ := hns
        rw [b3] at e
        cases e
        rw [b6] at d
        cases d
      · rintro rfl
        rw [tO p hp] at b3
        cases b3
        cases b6
      · rintro rfl
        cases b6
      · rintro rfl
        cases b6
  obtain ⟨mc, l1, l2⟩ := hlim
  have modB : L2.Mod K mg (hidT s1.heap H) := ⟨inB, nsB hns, ⟨mb, nsB hbn, hbb⟩, ⟨mc, nsB l1, l2⟩⟩
  have e0 : Env0 pr w K mg (hidT s1.heap H) callerA [] s1 H :=
    { frames := rfl, mod := modB, bs := fun b o e => of_hidT e, bsz := Nat.le_of_eq (hidT_size _ _), funs := trivial,
      frf := fun b hb => absurd (show b ∈ ([] : List Addr) from hb) (by simp), hok := hok, bare := .of_eq hgen }
  refine codeAny_mono ((F _ inB (nsB hns) smB tbs).run callerA [] s1 H ⟨[.ref a], []⟩ [.ref a] [.ref a] _ _ rfl hr e0 (hbind s1 (.ref a)) (.cons rfl .nil) hsp) ?_
  intro r s' h
  cases r with
  | error e => exact False.elim h
  | ok fl =>
    cases fl with
    | next => exact False.elim h
    | brk => exact False.elim h
    | cont => exact False.elim h
    | ret u =>
      obtain ⟨v, H', os, bare, un, hok', rv, q⟩ := h
      have q' : v = .bl true := q
      subst q'
      obtain rfl : u = Value.bool true := rv
      have kp : ∀ b o, b ∉ cs.map Prod.snd → s1.heap.get? b = some o → s'.heap.get? b = some o := by
        intro b o nb e
        rcases q : H b with _ | u
        · exact un.keep b o e q (fun z => absurd (show b ∈ ([] : List Addr) from z) (by simp)) (by simp)
        · rcases hO.el b u q with z | ⟨_, ob, xs, z⟩
          · exact absurd z nb
          · rw [z] at q
            obtain ⟨e1, _⟩ := hok b _ q
            obtain ⟨e2, _⟩ := hok' b _ (un.frzs b ob _ q)
            rw [e] at e1
            cases e1
            exact e2
      have gr : ∀ p ∈ cs, ∃ more : Array Value, s'.heap.get? p.2 = some { cls := .none, data := .fields more } := by
        intro p hp
        obtain ⟨more, z⟩ := un.tbls p.2 #[] (hO.tb p.2 (List.mem_map_of_mem hp))
        exact ⟨_, hok' p.2 _ z⟩
      refine ⟨rfl, ⟨fun b o e => ?_, fun b o e => ?_⟩, os, bare⟩
      · by_cases hb : b ∈ cs.map Prod.snd
        · obtain ⟨p, hp, rfl⟩ := List.mem_map.mp hb
          obtain ⟨more, hm⟩ := gr p hp
          rw [tO p hp] at e
          cases e
          exact .inr (.inl ⟨((tC p hp).tab (tO p hp)).isCodeTable, rfl, #[], more, rfl, by rw [Array.empty_append]; exact hm⟩)
        · exact .inl (kp b o hb e)
      · by_cases hb : b ∈ cs.map Prod.snd
        · obtain ⟨p, hp, rfl⟩ := List.mem_map.mp hb
          obtain ⟨more, hm⟩ := gr p hp
          exact ⟨_, hm⟩
        · exact ⟨o, kp b o hb e⟩
theorem top_tab (KX : K.In s1.heap) (hns : s1.heap.Ns mainGlobals mg) (hbn : s1.heap.Ns builtinsNs mb)
    (hbb : ∀ x : Str, x ≠ "__name__" → mb x = bootBuiltins x) (hlim : s1.heap.NoLimit) (hgen : s1.gens = #[]) (hsm : ∃ mm, s1.heap.Ns sysModules mm)
    (tO : ∀ p ∈ cs, s1.heap.get? p.2 = some tblO) (tK : ∀ p ∈ cs, K.lookup p.2 = none) (tC : ∀ p ∈ cs, PySem.W.CodeHd s1.heap p.1 p.2)
    (bmn : ∃ (bm : Addr) (ob : Obj), mg "__builtins__" = some (.ref bm) ∧ bm ≠ builtinsNs ∧ s1.heap.get? bm = some ob ∧ ob.cls = .type "module" ∧ ob.dict = some builtinsNs ∧ ob.data = .plain)
    (ha : s1.heap.get? a = some { cls := .type "list", data := .seq vs.toArray }) (hi : IntsAre vs ns) (hl : ns.length ≤ sizeLine) (hr : Room k callerA)
    (F : ∀ base : Heap, K.In base → base.Ns mainGlobals mg → (∃ o, base.get? sysModules = some o) → (∀ p ∈ cs, TabB base mg p.1 p.2) → FnG pr w K mg base CX0 k fa fd [x] sp)
    (hbind : ∀ (s : Shared) (u : Value), BindsTo s fd ⟨[u], []⟩ [(x, u)])
    (hsp : ∀ H : Hp, OnlyT (cs.map Prod.snd) a H → SqL K H a (ns.map V.int) → sp [.ref a] H (fun v _ => v = .bl true) fun _ _ _ => False) :
    codeAny (model pr w) callerA (.call (.ref fa) ⟨[.ref a], []⟩)
      (fun r s' => r = .ok (.ret (.bool true)) ∧ OldK s1.heap s'.heap ∧ s'.os = s1.os ∧ AllBare s'.gens) s1 := by
  have rv := vals_ints hi
  have ln := hi.length
  have tO' : ∀ b ∈ cs.map Prod.snd, s1.heap.get? b = some tblO := by
    intro b hb
    obtain ⟨p, hp, rfl⟩ := List.mem_map.mp hb
    exact tO p hp
  have aN : a ∉ cs.map Prod.snd := fun z => by
    have e := tO' a z
    rw [ha] at e
    cases e
  have okT : ∀ {H : Hp} {b : Addr} {u : HO}, b ∈ cs.map Prod.snd → some (HO.tbl #[]) = some u → ObjOk pr w H s1.heap b u := by
    intro H b u hb e
    cases e
    exact tO' b hb
  rcases hk : K.lookup a with _ | o
  · let H : Hp := fun b => if b = a then some (.frz { cls := .type "list", data := .seq vs.toArray } (.lst (ns.map V.int))) else if b ∈ cs.map Prod.snd then some (.tbl #[]) else none
    have Ha : H a = some (.frz { cls := .type "list", data := .seq vs.toArray } (.lst (ns.map V.int))) := if_pos rfl
    have Ht : ∀ b, b ∈ cs.map Prod.snd → H b = some (.tbl #[]) := fun b hb => (if_neg (fun z => aN (by rw [← z]; exact hb))).trans (if_pos hb)
    have Hn : ∀ b, b ≠ a → b ∉ cs.map Prod.snd → H b = none := fun b h1 h2 => (if_neg h1).trans (if_neg h2)
    have O : OnlyT (cs.map Prod.snd) a H := by
      refine ⟨Ht, fun b u e => ?_⟩
      by_cases h1 : b ∈ cs.map Prod.snd
      · exact .inl h1
      · by_cases h2 : b = a
        · subst h2
          rw [Ha] at e
          cases e
          exact .inr ⟨rfl, _, _, rfl⟩
        · rw [Hn b h2 h1] at e
          cases e
    refine core_tab KX hns hbn hbb hlim hgen hsm tO tK tC bmn ha hr F hbind H O (hsp H O (.inl (.inr ⟨_, Ha⟩))) ?_ (fun _ => hk)
    intro b u z
    by_cases hb : b = a
    · subst hb
      rw [Ha] at z
      cases z
      exact ⟨ha, by rw [List.length_map]; exact hl, vs, _, rv, ha⟩
    · by_cases h1 : b ∈ cs.map Prod.snd
      · rw [Ht b h1] at z
        exact okT h1 z
      · rw [Hn b hb h1] at z
        cases z
  · have e := KX a o hk
    rw [ha] at e
    cases e
    let H : Hp := fun b => if b ∈ cs.map Prod.snd then some (.tbl #[]) else none
    have Ht : ∀ b, b ∈ cs.map Prod.snd → H b = some (.tbl #[]) := fun b hb => if_pos hb
    have Hn : ∀ b, b ∉ cs.map Prod.snd → H b = none := fun b h2 => if_neg h2
    have O : OnlyT (cs.map Prod.snd) a H := by
      refine ⟨Ht, fun b u e => ?_⟩
      by_cases h1 : b ∈ cs.map Prod.snd
      · exact .inl h1
      · rw [Hn b h1] at e
        cases e
    refine core_tab KX hns hbn hbb hlim hgen hsm tO tK tC bmn ha hr F hbind H O (hsp H O ?_) ?_ (fun z => absurd (Hn a aN) z)
    · exact .inr ⟨_, vs.toArray, _, hk, rfl, rfl, rfl, by rw [List.size_toArray, ln]; exact hl, by simpa using rv⟩
    · intro b u z
      by_cases h1 : b ∈ cs.map Prod.snd
      · rw [Ht b h1] at z
        exact okT h1 z
      · rw [Hn b h1] at z
        cases z
end
/-- the end of a law's proof where code objects have tables -/
theorem walkT {l : PySem.W.OpenLaw} {n k : Nat} {q : Program} {loose : List Str} {XP : (Str → Option Value) → Heap → Prop}
    {YP : World → Heap → Prop} {d : DefRec} {K : Params → PySem.W.Frag} {cs : List (Addr × Addr)} {sp : World → Sp} {x : Str}
    (him : importsNone q = true) (hn : l.most = some n) (hn2 : n ≤ sizeLine) (hdf : d.params.defaults = []) (hr : Room k callerA)
    (hY : ∀ (w : World) (h : Heap), YP w h → (K w.params).In h ∧ ∀ p ∈ cs, h.get? p.2 = some tblO)
    (hL : ∀ (w : World), ∀ p ∈ cs, (K w.params).lookup p.2 = none)
    (hC : ∀ (w : World) (h : Heap), YP w h → (K w.params).In h → ∀ p ∈ cs, PySem.W.CodeHd h p.1 p.2)
    (F : ∀ (w : World) (mg : Str → Option Value) (fa : Addr) (h : Heap), (K w.params).In h → h.Ns mainGlobals mg → mg d.name = some (.ref fa) →
      ∃ fd : FuncData, (∀ (s : Shared) (u : Value), BindsTo s fd ⟨[u], []⟩ [(x, u)]) ∧
        ∀ base : Heap, (K w.params).In base → base.Ns mainGlobals mg → (∃ o, base.get? sysModules = some o) → (∀ p ∈ cs, TabB base mg p.1 p.2) → FnG l.prog w (K w.params) mg base CX0 k fa fd [x] (sp w))
    (hsp : ∀ (w : World) (H : Hp) (a : Addr) (ns : List Int), ns.length ≤ n → OnlyT (cs.map Prod.snd) a H → SqL (K w.params) H a (ns.map V.int) →
      sp w [.ref a] H (fun v _ => v = .bl true) fun _ _ _ => False) :
    PySem.W.WalkO q loose XP YP l.row.toRowW d [] (fun f vs => PySem.call f vs) := by
  refine Att.attach_call hn hdf ?_
  intro w s0 s1 mg mb fa o pm cd doc a vs ns G Y ho hd hcd hmg hobj hints hlen hg
  obtain ⟨KX, tO⟩ := hY w _ Y
  obtain ⟨fd, hb, hF⟩ := F w mg fa _ KX G.T.g hmg
  exact top_tab KX G.T.g G.T.b G.T.builtins G.T.nolimit hg (by obtain ⟨mm, hm, _⟩ := (G.T.seer him).mods; exact ⟨mm, hm⟩) tO (hL w) (hC w _ Y KX) G.T.bmain hobj hints (Nat.le_trans hlen hn2) hr hF hb
    fun H hO hS => hsp w H a ns hlen hO hS
end Gd
set_option Elab.async false
set_option linter.all false
set_option maxRecDepth 100000
set_option maxHeartbeats 4000000
/-! a lambda with one default, a whole number, handed to a def: f(lambda x=0: body) -/
namespace Gd
open PySem PySem.Spec PySem.W PyProof.Rows L2 LamX
/-- the lambda's names: own ones that the maker's slots do not bear, captured ones, globals -/
structure LamD (N : List Str) (sc scope : Scope) : Prop where
  kind : scope.kind = .function
  co : scope.isCoroutine = false
  gen : scope.isGenerator = false
  noc : ∀ y ∈ scope.names, y.2 ≠ .cell
  own : ∀ y ∈ scope.names, y.2 = .local → y.1 ∉ N
  fre : ∀ y ∈ scope.names, y.2 = .free → sc.names.lookup y.1 = some .cell ∨ sc.names.lookup y.1 = some .free
def lamDB (N : List Str) (sc scope : Scope) : Bool :=
  decide (scope.kind = .function) && (!scope.isCoroutine && (!scope.isGenerator && scope.names.all fun y =>
    !decide (y.2 = .cell) && ((!decide (y.2 = .local) || !decide (y.1 ∈ N)) &&
      (!decide (y.2 = .free) || (decide (sc.names.lookup y.1 = some .cell) || decide (sc.names.lookup y.1 = some .free))))))
theorem lamD_by {N : List Str} {sc scope : Scope} (h : lamDB N sc scope = true) : LamD N sc scope := by
  unfold lamDB at h
  simp only [Bool.and_eq_true, Bool.or_eq_true, Bool.not_eq_true', decide_eq_true_eq, decide_eq_false_iff_not, List.all_eq_true] at h
  obtain ⟨h1, h2, h3, h4⟩ := h
  exact ⟨h1, h2, h3, fun y hy => (h4 y hy).1, fun y hy e => (h4 y hy).2.1.resolve_left (fun z => z e), fun y hy e => (h4 y hy).2.2.resolve_left (fun z => z e)⟩
/-- the object that the making leaves -/
abbrev lobj (X : Cx) (params : Arguments) (body : Expr) (scope : Scope) (T0 : Addr) (doc pm : Value) (c' : Addr) (ctv : Value) : Obj :=
  kdv_obj "<lambda>" (X.env.qual ++ "<lambda>") params (.expr body) scope (cloFrom X.env.cells scope.names []) (.ref T0) doc pm c' ctv
section
variable {X : Cx} {pins : List (Addr × Obj)} {σ : L2.St} {H HZ : Hp} {s s1 : Shared}
theorem LamD.has {scope : Scope} (L : LamD X.N X.env.scope scope) (ok : X.Ok) {y : Str × NameKind} (hy : y ∈ scope.names) (e : y.2 = .free) : ∃ c, X.env.cells.lookup y.1 = some c := by
  rcases L.fre y hy e with k | k
  · exact ok.has _ (.inl k)
  · exact ok.has _ (.inr k)
/-- the making -/
theorem lamD_make {T : List (Addr × Str)} {c P : Addr} {params : Arguments} {body : Expr} {scope : Scope} {pos p0 : Pos} {i0 : Int} {Q : Value → Shared → Prop} (I : Inv X pins σ H s)
    (TB : TabB X.base X.mg c P) (hcode : X.env.code = .ref c) (hm : (P, X.env.qual ++ "<lambda>") ∈ T) (hu : ∀ p ∈ T, p.1 = P → p.2 = X.env.qual ++ "<lambda>") (hT : Tabs T H)
    (hd : params.defaults = [.Constant (.int i0) 0 p0]) (hk : params.kw_defaults = []) (L : LamD X.N X.env.scope scope)
    (h : ∀ (f c' T0 : Addr) (t : Tok) (doc pm ctv : Value) (H1 : Hp) (s' : Shared), Inv X pins σ H1 s' → ExtN H H1 → Tabs T H1 →
      s'.heap.get? f = some (lobj X params body scope T0 doc pm c' ctv) → H1 f = none → f ∉ frs X.stack →
      s'.heap.get? T0 = some (kdv_tup [.int i0 t]) → H1 T0 = none → T0 ∉ frs X.stack → H1 c' = some (CodeO c' (X.env.qual ++ "<lambda>")) → Q (.ref f) s') :
    wpAny (model X.prog X.w) X.A (eval (.Lambda params body scope pos) X.env) Q X.xe s := by
  refine kdv_lam (by rw [hd]; rfl) hk ?_
  rw [hd]
  refine kdv_all1 (wpAny_mono ((pe_int (X := X)).run pins s σ H (fun v H1 => v = .int i0 ∧ H1 = H) I ⟨rfl, rfl⟩) (fun u s2 hq => ?_) (fun e s' q => q))
  obtain ⟨v, H2, I2, rv, ev, eH⟩ := hq
  subst ev
  subst eH
  obtain ⟨t, rfl⟩ : ∃ t, u = Value.int i0 t := rv
  refine kdv_all0 ?_
  rw [makeFunction_eq]
  simp only [List.zip_nil_right, List.filterMap_nil, List.isEmpty_nil, List.isEmpty_cons, if_true, pure_bind, Bool.false_eq_true, if_false]
  refine wpAny_bind (wpAny_newTextTuple ?_)
  -- the tuple of what the lambda has by itself
  have I3 : Inv X pins σ H2 { s2 with heap := s2.heap.push (kdv_tup [.int i0 t]) } := I2.kept (t' := s2.toks) fun b o e => Heap.get?_push_of_some _ e
  have nT0 : H2 s2.heap.objs.size = none := I2.hok.fresh (Nat.le_refl _)
  have fr : ∀ {b : Addr}, s2.heap.objs.size ≤ b → b ∉ frs X.stack := fun {b} hb z => by
    rcases List.mem_cons.mp (I2.stkSub _ z) with e | e
    · have l1 := I2.lt
      rw [← e] at l1
      exact Nat.lt_irrefl _ (Nat.lt_of_lt_of_le l1 hb)
    · exact I2.nofs hb e
  have gT0 : (s2.heap.push (kdv_tup [.int i0 t])).get? s2.heap.objs.size = some (kdv_tup [.int i0 t]) := Heap.get?_push_size _ rfl
  obtain ⟨ps, hP, ht, ha⟩ := hT _ hm
  have bP := TB.bm.keeps I3.bk
  have oP : (s2.heap.push (kdv_tup [.int i0 t])).get? P = some (tabObj ps) := I3.hok P _ hP
  have oP2 : s2.heap.get? P = some (tabObj ps) := I2.hok P _ hP
  have clo := closure_ok (scope := scope) (env := X.env) (fun y hy e => L.has I.ok hy e)
  have sz : (s2.heap.push (kdv_tup [.int i0 t])).objs.size = s2.heap.objs.size + 1 := Heap.size_push _ _
  rcases hc : codeAmong pos ps.toList with _ | cv
  · refine kdv_makeTail (c := c) (mg := X.mg) clo I.ok.glob (I.mod.glob.keeps I3.bk) hcode (TB.code.keeps I3.bk) oP ht hc TB.gP bP (fun c' ctv doc h' tk hx hge hlt hrec htb => ?_)
    obtain ⟨c2, oc, vs, tq, e2, hoc, hdt, hv⟩ := hrec
    cases e2
    have nC : H2 c' = none := I3.hok.fresh hge
    have keep : ∀ b o, b ≠ P → (s2.heap.push (kdv_tup [.int i0 t])).get? b = some o → (h'.push (lobj X params body scope s2.heap.objs.size doc ((X.mg "__name__").getD .none) c' ctv)).get? b = some o :=
      fun b o n e => Heap.get?_push_of_some _ (hx b o n e)
    have I4 := inv_table (t' := tk) (more := #[rawInt pos.line, rawInt pos.col, .ref c']) I3 hP keep (Heap.get?_push_of_some _ htb) hge ⟨oc, vs, tq, Heap.get?_push_of_some _ hoc, hdt, hv⟩
    have nPc : P ≠ c' := ne_of_none hP nC
    have grow : ExtN H2 (upd (upd H2 P (.tbl (ps ++ #[rawInt pos.line, rawInt pos.col, .ref c']))) c' (CodeO c' (X.env.qual ++ "<lambda>"))) := by
      intro b o e n
      have n1 : b ≠ P := by
        rintro rfl
        rw [hP] at e
        exact n ps (Option.some.inj e).symm
      rw [upd_ne (ne_of_none e nC), upd_ne n1]
      exact e
    have szh : (s2.heap.push (kdv_tup [.int i0 t])).objs.size ≤ h'.objs.size := Nat.le_trans hge (Nat.le_of_lt hlt)
    have big : s2.heap.objs.size ≤ h'.objs.size := by omega
    have T0P : s2.heap.objs.size ≠ P := fun z => by
      have l2 := Heap.lt_size oP2
      rw [← z] at l2
      exact Nat.lt_irrefl _ l2
    have T0c : s2.heap.objs.size ≠ c' := fun z => by
      rw [sz, ← z] at hge
      exact Nat.not_succ_le_self _ hge
    have hfc : h'.objs.size ≠ c' := fun z => Nat.lt_irrefl _ (by rw [z] at hlt; exact hlt)
    have hfP : h'.objs.size ≠ P := fun z => by
      have l2 := Heap.lt_size oP2
      rw [← z] at l2
      exact Nat.lt_irrefl _ (Nat.lt_of_lt_of_le l2 big)
    refine h h'.objs.size c' s2.heap.objs.size t doc _ ctv _ _ I4 grow (fun p hp => ?_) (Heap.get?_push_size _ rfl) (by rw [upd_ne hfc, upd_ne hfP]; exact I2.hok.fresh big) (fr big)
      (keep _ _ T0P gT0) (by rw [upd_ne T0c, upd_ne T0P]; exact nT0) (fr (Nat.le_refl _)) upd_same
    by_cases hb : p.1 = P
    · rw [hu p hp hb, hb]
      have el : (ps ++ #[rawInt pos.line, rawInt pos.col, .ref c']).toList = ps.toList ++ [rawInt pos.line, rawInt pos.col, .ref c'] := by rw [Array.toList_append]
      refine ⟨ps ++ #[rawInt pos.line, rawInt pos.col, .ref c'], by rw [upd_ne nPc, upd_same], ?_, fun p' cv hcv => ?_⟩
      · rw [el]
        exact PySem.TriplesOk_snoc _ _ _ _ ht
      · rw [el] at hcv
        rcases among_app _ ht hcv with z | z
        · obtain ⟨c0, z1, z2⟩ := ha p' cv z
          exact ⟨c0, z1, grow _ _ z2 codeO_ne⟩
        · exact ⟨c', z, upd_same⟩
    · obtain ⟨qs, a1, a2, a3⟩ := hT p hp
      refine ⟨qs, by rw [upd_ne (ne_of_none a1 nC), upd_ne hb]; exact a1, a2, fun p' cv hcv => ?_⟩
      obtain ⟨c0, z1, z2⟩ := a3 p' cv hcv
      exact ⟨c0, z1, grow _ _ z2 codeO_ne⟩
  · obtain ⟨c', rfl, hco⟩ := ha pos cv hc
    refine kdv_makeTailHit (c := c) (mg := X.mg) clo I.ok.glob (I.mod.glob.keeps I3.bk) hcode (TB.code.keeps I3.bk) oP ht hc bP (fun ctv doc h' tk hx hsz => ?_)
    have keep : ∀ b o, (s2.heap.push (kdv_tup [.int i0 t])).get? b = some o → (h'.push (lobj X params body scope s2.heap.objs.size doc ((X.mg "__name__").getD .none) c' ctv)).get? b = some o :=
      fun b o e => Heap.get?_push_of_some _ (hx b o e)
    have I4 : Inv X pins σ H2 { s2 with heap := h'.push (lobj X params body scope s2.heap.objs.size doc ((X.mg "__name__").getD .none) c' ctv), toks := tk } := I3.kept keep
    have hsz' : (s2.heap.push (kdv_tup [.int i0 t])).objs.size ≤ h'.objs.size := hsz
    have big : s2.heap.objs.size ≤ h'.objs.size := by omega
    exact h h'.objs.size c' s2.heap.objs.size t doc _ ctv H2 _ I4 (ExtN.refl H2) hT (Heap.get?_push_size _ rfl) (I2.hok.fresh big) (fr big) (keep _ _ gT0) nT0 (fr (Nat.le_refl _)) hco
/-- the entering -/
theorem lamD_start {A : Around} {outer : List Env} {E : XK} {scope : Scope} {f c' : Addr} {h1 : Heap} {tk : Nat} {bs : List (Str × Value)} (I : Inv X pins σ H s) (L : LamD X.N X.env.scope scope)
    (e0 : Env0 X.prog X.w X.K X.mg X.base A outer s1 HZ) (hd : A.handled = none) (un : Un (frs X.stack) [] H HZ s.heap s1.heap)
    (hns : h1.Ns s1.heap.objs.size fun y => bs.reverse.lookup y) (kp : ∀ b o, s1.heap.get? b = some o → h1.get? b = some o) :
    Inv (lamCx X A outer s1 HZ E scope f c') [] σ HZ { s1 with heap := h1, toks := tk } := by
  have sub : ∀ {y : Str} {c : Addr}, (cloFrom X.env.cells scope.names []).lookup y = some c → X.env.cells.lookup y = some c := by
    intro y c e
    rcases cloFrom_mem (PySem.mem_of_lookup e) with z | ⟨z1, z2⟩
    · cases z
    · obtain ⟨c1, hc⟩ := L.has I.ok z1 rfl
      have hc' : X.env.cells.lookup y = some c1 := hc
      obtain rfl : c = c1 := by
        rw [z2, hc'] <;> rfl
      exact hc'
  have ther : ∀ {y : Str}, scope.names.lookup y = some .free → ∃ c, (cloFrom X.env.cells scope.names []).lookup y = some c := by
    intro y hl
    have hm : (y, NameKind.free) ∈ scope.names := PySem.mem_of_lookup hl
    exact mem_lookup (cloFrom_has (acc := []) (cells := X.env.cells) hm)
  have cel : ∀ {c : Addr} {v : Option Value}, H c = none → s.heap.IsCell c v → h1.IsCell c v := by
    rintro c v n ⟨o, ho, hdt⟩
    obtain ⟨sl, q⟩ := un.any ho n (by simp)
    exact ⟨_, kp _ _ q, hdt⟩
  have no : ∀ b : Addr, ¬ b ∈ ([] : List Addr) := fun b z => by cases z
  exact
    { os := rfl, bare := e0.bare, base := Un.kept kp, free := e0.hok.fresh (Nat.le_refl _), hok := e0.hok.kept kp, len := I.len
      pin := fun q hq => absurd (show q ∈ ([] : List (Addr × Obj)) ++ [] from hq) (by simp)
      freeC := fun y c e => by
        obtain ⟨v, o, ho, hdt⟩ := I.cell y c (sub e)
        exact un.free c o ho (I.freeC y c (sub e)) (by simp)
      cell := fun y c e => by
        obtain ⟨v, z⟩ := I.cell y c (sub e)
        exact ⟨v, cel (I.freeC y c (sub e)) z⟩
      ok :=
        { mod := e0.mod, kind := L.kind, glob := rfl, blt := rfl, above := Nat.le_refl _, inj := fun y z c e1 e2 => I.ok.inj y z c (sub e1) (sub e2)
          has := fun y hy => by
            have hy' : scope.names.lookup y = some .cell ∨ scope.names.lookup y = some .free := hy
            rcases hy' with z | z
            · exact absurd rfl (L.noc _ (PySem.mem_of_lookup z))
            · exact ther z
          cab := fun y c z _ => by
            have z' : false = true := z
            cases z'
          hd := fun _ => hd, frames := Around.frames_deeper e0.frames, stk := .inr ⟨rfl, rfl⟩, exf := fun b z => absurd z (no b), bs := e0.bs, bsz := e0.bsz
          noex := fun b _ _ => no b, exfs := fun b z => absurd z (no b), funs := e0.funs, frf := e0.frf }
      loc := ⟨_, hns, fun i y v e1 e2 e3 => by
        have e3' : Vis scope y := e3
        rcases e3' with k | k | k
        · have hy : y ∈ X.N := List.mem_of_getElem? e1
          exact absurd hy (L.own _ (PySem.mem_of_lookup k) rfl)
        · exact absurd rfl (L.noc _ (PySem.mem_of_lookup k))
        · obtain ⟨m, hn, hl⟩ := I.loc
          have vis : Vis X.env.scope y := (L.fre _ (PySem.mem_of_lookup k) rfl).elim (fun z => .inr (.inl z)) (fun z => .inr (.inr z))
          obtain ⟨u, r, q⟩ := hl i y v e1 e2 vis
          obtain ⟨c2, h2⟩ := ther k
          refine ⟨u, r, .inr ⟨.inr k, c2, h2, ?_⟩⟩
          have c1 := sub h2
          rcases q with ⟨k1, _⟩ | ⟨_, c3, e4, z⟩
          · have k1' : X.env.scope.names.lookup y = some .local := k1
            rcases L.fre _ (PySem.mem_of_lookup k) rfl with k2 | k2
            · have k2' : X.env.scope.names.lookup y = some .cell := k2
              rw [k2'] at k1'
              cases k1'
            · have k2' : X.env.scope.names.lookup y = some .free := k2
              rw [k2'] at k1'
              cases k1'
          · rw [c1] at e4
            cases e4
            exact cel (I.freeC y _ c1) z⟩ }
/-- what the lambda's own name stands for where it is called with nothing -/
abbrev LBind (X : Cx) (params : Arguments) (body : Expr) (scope : Scope) (i0 : Int) (bs : Tok → List (Str × Value)) : Prop :=
  ∀ (s : Shared) (T0 : Addr) (t : Tok) (doc pm cv ctv : Value), s.heap.get? T0 = some (kdv_tup [.int i0 t]) →
    BindsTo s (kdv_fn "<lambda>" (X.env.qual ++ "<lambda>") params (.expr body) scope (cloFrom X.env.cells scope.names []) (.ref T0) doc pm cv ctv) ⟨[], []⟩ (bs t)
/-- the lambda called in the def that got it -/
theorem lamD_act {CXg : CXT} {Eg : XK} {Ng : List Str} {qg : Str} {sg : Scope} {g f c' T0 : Addr} {cdg doc pm ctv : Value} {params : Arguments} {body : Expr} {scope : Scope} {k i : Nat} {a : Str} {i0 : Int} {t : Tok} {bs : Tok → List (Str × Value)}
    {pn : List (Addr × Obj)} {xe : Value → Shared → Prop} {W : WX} {E : XK} {tb : TE} {p1 p2 : Pos} (I : Inv X pins σ H s) (L : LamD X.N X.env.scope scope)
    (hf : s.heap.get? f = some (lobj X params body scope T0 doc pm c' ctv)) (nf : H f = none) (ff : f ∉ frs X.stack) (hT : s.heap.get? T0 = some (kdv_tup [.int i0 t])) (nT : H T0 = none) (fT : T0 ∉ frs X.stack)
    (hb : LBind X params body scope i0 bs) (hl : ∀ t, ∀ y ∈ bs t, scope.names.lookup y.1 = some .local)
    (tk : Takes ((cxOf CXg X.prog X.w X.K X.mg X.base Ng qg sg g cdg X.A X.stack s H Eg).tr pn xe) W) (hW : ∀ cls d σ' H', E cls d H' → W cls d σ' H') (hr : Room (k + 1) (X.A.deeper (envOfC qg sg s.heap.objs.size g cdg)))
    (hbody : ∀ (A : Around) (outer : List Env) (s : Shared) (H : Hp), Room k (A.deeper (lamEnv X scope s.heap.objs.size f c')) → PE (lamCx X A outer s H E scope f c') body tb)
    (hN : Ng[i]? = some a) (hv : Vis sg a) (hd1 : (a == ("__debug__" : Str)) = false) (hd2 : (a == ("__classdict__" : Str)) = false) :
    PE ((cxOf CXg X.prog X.w X.K X.mg X.base Ng qg sg g cdg X.A X.stack s H Eg).tr pn xe) (.Call (.Name a p1) [] [] p2)
      fun σZ HZ Q => σZ[i]? = some (some (.ref f)) ∧ HZ c' = some (CodeO c' (X.env.qual ++ "<lambda>")) ∧ tb σ HZ Q := by
  constructor
  intro pinsZ sZ σZ HZ Q IZ hq0
  obtain ⟨hs, hco, ht⟩ := hq0
  have rd := (pe_var (pos := p1) (i := i) hN hv hd1 hd2).run pinsZ sZ σZ HZ (fun v H1 => v = .ref f ∧ H1 = HZ) IZ ⟨.ref f, hs, rfl, rfl⟩
  refine wpAny_Call_Name_kw (thn rd fun u s1 hq1 => ?_)
  obtain ⟨v, H1, I1, rv, rfl, rfl⟩ := hq1
  obtain rfl : u = Value.ref f := rv
  have gone : ∀ b : Addr, ¬ b ∈ ([] : List Addr) := fun b z => by cases z
  have of : s1.heap.get? f = some (lobj X params body scope T0 doc pm c' ctv) := I1.base.keep f _ hf nf ff (gone f)
  have oT : s1.heap.get? T0 = some (kdv_tup [.int i0 t]) := I1.base.keep T0 _ hT nT fT (gone T0)
  have un : Un (frs X.stack) [] H H1 s.heap s1.heap := I1.base
  obtain ⟨⟨oc, vs, tq, hoc, hdc, hvc⟩, _, _⟩ := I1.hok c' _ hco
  refine PySem.W.callWith_F0 ⟨_, _, _, _, of⟩ (wpAny_call ?_)
  have ran : codeAny (model X.prog X.w) (X.A.deeper (envOfC qg sg s.heap.objs.size g cdg)) (.call (.ref f) ⟨[], []⟩) (CR (L2.CX X.prog X.w) (envOfC qg sg s.heap.objs.size g cdg :: X.stack) X.prog X.w H1 s1 Q E) s1 := by
    refine kla_callFunE (body := body) hr.depth of rfl L.co L.gen rfl ⟨c', oc, vs, tq, rfl, hoc, hdc, hvc⟩ (hb s1 T0 t doc pm (.ref c') ctv oT _ _ _ _ ?_)
    refine wpAny_newFunctionEnv L.noc (hl t) (fun h1 hns hsb => ⟨I1.nolimit.fresh _ hsb, ?_⟩) L.kind
    have kp : ∀ b o, s1.heap.get? b = some o → h1.get? b = some o := fun b o e => hsb.extBut b o (Nat.ne_of_lt (Heap.lt_size e)) (Heap.get?_push_of_some _ e)
    have J := lamD_start (tk := s1.toks + (bs t).length) (E := E) (f := f) (c' := c') I L I1.env0 hr.hd un hns kp
    have fin := (hbody (X.A.deeper (envOfC qg sg s.heap.objs.size g cdg)) (envOfC qg sg s.heap.objs.size g cdg :: X.stack) s1 H1 (hr.deeper _)).run [] _ σ H1 Q J ht
    show codeAny _ _ (.expr body (lamEnv X scope s1.heap.objs.size f c')) _ _
    refine kla_codeExpr (wpAny_mono fin (fun v s' hq => ?_) fun e s' hq => hq)
    obtain ⟨u, H', J', ru, q⟩ := hq
    exact ⟨u, H', J'.os, J'.bare, J'.base, J'.hok, ru, q⟩
  have out : Passes (L2.CX X.prog X.w) ((cxOf CXg X.prog X.w X.K X.mg X.base Ng qg sg g cdg X.A X.stack s H Eg).tr pn xe) E := passes_call tk hW
  refine codeAny_mono ran fun r s' hq => ?_
  cases r with
  | error e => exact out pinsZ σZ H1 s1 e s' I1 hq
  | ok fl =>
    cases fl with
    | ret u => exact I1.after hq
    | next => exact hq.elim
    | brk => exact hq.elim
    | cont => exact hq.elim
end
section
variable {X : Cx}
/-- x(lambda y=i0: body) -/
theorem pe_lamcallD {T : List (Addr × Str)} {TT : (XK → Hp → VK → Prop) → Hp → VK → Prop} {x a : Str} {g c P : Addr} {k : Nat} {pg : Arguments} {bg : List Stmt} {sg : Scope} {dV kV doc pm cdv ct oc : Value} {an od : Option Addr}
    {osl : Array (Option Value)} {Ng : List Str} {params : Arguments} {body : Expr} {scope : Scope} {t : XK → TE} {p lpos pos p0 : Pos} {i0 : Int} {bs : Tok → List (Str × Value)}
    (hg : Gl X x) (hm : X.mg x = some (.ref g)) (hk : keepIn X.K (.ref g) = true) (lk : X.K.lookup g = some ⟨oc, od, .func (fnOf x x pg bg sg dV kV doc pm an cdv ct), osl⟩) (hcg : codeIn X.K cdv x = true)
    (hb : L2.Binds X.K (fnOf x x pg bg sg dV kV doc pm an cdv ct) [a] []) (Sg : FnScope Ng [a] sg) (hNg : Ng[0]? = some a) (hva : Vis sg a) (hG : GivesTo X Ng x sg g cdv bg a (X.env.qual ++ "<lambda>") TT)
    (TB : TabB X.base X.mg c P) (hcode : X.env.code = .ref c) (hmT : (P, X.env.qual ++ "<lambda>") ∈ T) (hu : ∀ p ∈ T, p.1 = P → p.2 = X.env.qual ++ "<lambda>") (hr : Room (k + 2) X.A)
    (L : LamD X.N X.env.scope scope) (hdf : params.defaults = [.Constant (.int i0) 0 p0]) (hkd : params.kw_defaults = []) (hbs : LBind X params body scope i0 bs) (hl : ∀ t, ∀ y ∈ bs t, scope.names.lookup y.1 = some .local)
    (hbody : ∀ (A : Around) (outer : List Env) (s : Shared) (H : Hp) (E : XK) (f c' : Addr), Room k (A.deeper (lamEnv X scope s.heap.objs.size f c')) → PE (lamCx X A outer s H E scope f c') body (t E))
    (hd0 : (x == ("__debug__" : Str)) = false := by decide) (hd1 : (a == ("__debug__" : Str)) = false := by decide) (hd2 : (a == ("__classdict__" : Str)) = false := by decide) :
    PE X (.Call (.Name x p) [.Lambda params body scope lpos] [] pos) (tLam T TT t) := by
  constructor
  intro pins s σ H Q I hq
  obtain ⟨hT, hq⟩ := hq
  refine wpAny_Call_Name_kw (ld_glob I hg hm ?_ hd0)
  refine callWith_K (h₀ := X.base) I.ok.mod.kin hk ?_ (by rfl) (by rfl)
  show wpAny _ _ (spliced ((false, eval (.Lambda params body scope lpos) X.env) :: backTo pos (starEach [] X.env))) _ _ s
  refine Calls.spliced_cons (lamD_make I TB hcode hmT hu hT hdf hkd L fun f c' T0 tq doc' pm' ctv H1 s' I1 eN T1 hf nf ff hT0 nT0 fT0 hco => ?_)
  refine Calls.spliced_nil ⟨I1.kIn, wpAny_call ?_⟩
  have ran : codeAny (model X.prog X.w) X.A (.call (.ref g) ⟨[.ref f], []⟩) (CR C8.CX0 X.stack X.prog X.w H1 s' Q C8.E0) s' := by
    refine run_ofS (ps := [a]) (N := Ng) (vs := [.ref f]) (us := [.ref f]) lk hcg Sg hr I1.env0 (hb s' [.ref f] I1.kIn rfl) (.cons rfl .nil) rfl fun hr' => ?_
    obtain ⟨t', ht', hq'⟩ := hG f c' s' H1 Q (fun E H' Q' => t E σ H' Q')
      (fun W pn xe E p1 p2 tk hW => lamD_act (i := 0) I1 L hf nf ff hT0 nT0 fT0 hbs hl tk hW hr' (fun A outer s H hr2 => hbody A outer s H E f c' hr2) hNg hva hd1 hd2) hco (hq H1 eN T1)
    exact ⟨t', ht'.nox, hq'⟩
  refine codeAny_mono ran fun r s2 h2 => ?_
  cases r with
  | error e => exact (show False from h2).elim
  | ok fl =>
    cases fl with
    | ret u => exact I1.after h2
    | next => exact h2.elim
    | brk => exact h2.elim
    | cont => exact h2.elim
end
end Gd
set_option Elab.async false
set_option linter.all false
set_option maxRecDepth 100000
set_option maxHeartbeats 4000000
namespace K2
open PySem L2 Gd
/-! ### the text by places -/
def top (i : Nat) : Stmt := PySem.Challenge.pw_oftenenough_k02_whole_shares_and_sizes.main.body.getD i (.Pass ⟨0, 0, 0, 0⟩)

abbrev sIniP : Stmt := inClass (top 3) 0
abbrev sIniN : Stmt := inClass (top 4) 0
abbrev sWh : Stmt := top 9
abbrev sBet : Stmt := top 10
abbrev sGap : Stmt := top 11
abbrev sNeed : Stmt := top 12
abbrev sNum : Stmt := top 13
abbrev sShare : Stmt := top 14
abbrev sMany : Stmt := top 15
abbrev sWith : Stmt := top 16
abbrev sWo : Stmt := top 17
abbrev sBegun : Stmt := top 19
abbrev sDraw : Stmt := top 20
abbrev sOf : Stmt := top 21
abbrev sLow : Stmt := top 22
abbrev sSum : Stmt := top 23
abbrev sProd : Stmt := top 24
abbrev sDrawn : Stmt := top 25
abbrev sSaid : Stmt := top 26
abbrev sIsInt : Stmt := top 27
abbrev sAny : Stmt := top 28
abbrev sBent : Stmt := top 29
abbrev sLaw : Stmt := top 30
/-! ### the draws' state -/
def mD (l sd : Int) (c : Addr) (sp : Int) : List (Key × V) := [(.inr "left", .int l), (.inr "seed", .int sd), (.inr "cells", .ref c), (.inr "spot", .int sp)]
theorem sne1 : ¬ ("left" : Str) = "seed" := by decide +kernel
theorem sne2 : ¬ ("left" : Str) = "cells" := by decide +kernel
theorem sne3 : ¬ ("left" : Str) = "spot" := by decide +kernel
theorem sne4 : ¬ ("seed" : Str) = "cells" := by decide +kernel
theorem sne5 : ¬ ("seed" : Str) = "spot" := by decide +kernel
theorem sne6 : ¬ ("cells" : Str) = "spot" := by decide +kernel
theorem inr_ne {a b : Str} (h : ¬ a = b) : ¬ (Sum.inr a : Key) = Sum.inr b := fun z => h (Sum.inr.inj z)
theorem v_left (l sd : Int) (c : Addr) (sp : Int) : valV (mD l sd c sp) (.inr "left") = some (.int l) := valV_pos rfl
theorem v_seed (l sd : Int) (c : Addr) (sp : Int) : valV (mD l sd c sp) (.inr "seed") = some (.int sd) := by
  unfold mD
  rw [valV_neg (inr_ne sne1), valV_pos rfl]
theorem v_cells (l sd : Int) (c : Addr) (sp : Int) : valV (mD l sd c sp) (.inr "cells") = some (.ref c) := by
  unfold mD
  rw [valV_neg (inr_ne sne2), valV_neg (inr_ne sne4), valV_pos rfl]
theorem v_spot (l sd : Int) (c : Addr) (sp : Int) : valV (mD l sd c sp) (.inr "spot") = some (.int sp) := by
  unfold mD
  rw [valV_neg (inr_ne sne3), valV_neg (inr_ne sne5), valV_neg (inr_ne sne6), valV_pos rfl]
theorem p_left (l sd : Int) (c : Addr) (sp y : Int) : putK (mD l sd c sp) (.inr "left") (.int y) = mD y sd c sp := by
  have h1 : ¬ (Sum.inr "seed" : Key) = Sum.inr ("left" : Str) := inr_ne fun z => sne1 z.symm
  have h2 : ¬ (Sum.inr "cells" : Key) = Sum.inr ("left" : Str) := inr_ne fun z => sne2 z.symm
  have h3 : ¬ (Sum.inr "spot" : Key) = Sum.inr ("left" : Str) := inr_ne fun z => sne3 z.symm
  unfold mD putK
  rw [if_pos (by simp)]
  simp only [List.map_cons, List.map_nil, if_pos, if_neg h1, if_neg h2, if_neg h3]
theorem p_spot (l sd : Int) (c : Addr) (sp y : Int) : putK (mD l sd c sp) (.inr "spot") (.int y) = mD l sd c y := by
  have h1 : ¬ (Sum.inr "left" : Key) = Sum.inr ("spot" : Str) := inr_ne sne3
  have h2 : ¬ (Sum.inr "seed" : Key) = Sum.inr ("spot" : Str) := inr_ne sne5
  have h3 : ¬ (Sum.inr "cells" : Key) = Sum.inr ("spot" : Str) := inr_ne sne6
  unfold mD putK
  rw [if_pos (by simp)]
  simp only [List.map_cons, List.map_nil, if_pos, if_neg h1, if_neg h2, if_neg h3]
section
variable {H : Hp} {m : Addr} {l sd sp : Int} {c : Addr}
theorem g_left (h : H m = some (.dK (mD l sd c sp))) : DGet H m (.str "left") (some (.int l)) := by rw [← v_left l sd c sp]; exact DGet.k (k := Sum.inr "left") h
theorem g_seed (h : H m = some (.dK (mD l sd c sp))) : DGet H m (.str "seed") (some (.int sd)) := by rw [← v_seed l sd c sp]; exact DGet.k (k := Sum.inr "seed") h
theorem g_cells (h : H m = some (.dK (mD l sd c sp))) : DGet H m (.str "cells") (some (.ref c)) := by rw [← v_cells l sd c sp]; exact DGet.k (k := Sum.inr "cells") h
theorem g_spot (h : H m = some (.dK (mD l sd c sp))) : DGet H m (.str "spot") (some (.int sp)) := by rw [← v_spot l sd c sp]; exact DGet.k (k := Sum.inr "spot") h
theorem u_left (y : Int) (h : H m = some (.dK (mD l sd c sp))) : DPut H m (.str "left") (.int y) (upd H m (.dK (mD y sd c sp))) := by
  rw [← p_left l sd c sp]; exact DPut.k (k := Sum.inr "left") (v := .int y) h (by rw [sizeLine_eq]; show 4 < _; decide)
theorem u_spot (y : Int) (h : H m = some (.dK (mD l sd c sp))) : DPut H m (.str "spot") (.int y) (upd H m (.dK (mD l sd c y))) := by
  rw [← p_spot l sd c sp]; exact DPut.k (k := Sum.inr "spot") (v := .int y) h (by rw [sizeLine_eq]; show 4 < _; decide)
end
/-- the draws' state stands at m, at most n draws were made -/
structure MOk (H : Hp) (m c : Addr) (n : Nat) : Prop where
  ex : ∃ (l sd : Int) (sp : Int) (cs : List Int), H m = some (.dK (mD l sd c sp)) ∧ H c = some (.lst (cs.map V.int)) ∧ 0 < cs.length ∧ cs.length ≤ 200 ∧ 0 ≤ sp ∧ sp ≤ n
/-- all but m stands as it was -/
def Grow (m : Addr) (H H' : Hp) : Prop := ∀ b o, b ≠ m → H b = some o → H' b = some o
theorem Grow.refl (m : Addr) (H : Hp) : Grow m H H := fun _ _ _ h => h
theorem Grow.trans {m : Addr} {H H1 H2 : Hp} (a : Grow m H H1) (b : Grow m H1 H2) : Grow m H H2 := fun c o n h => b c o n (a c o n h)
theorem Grow.upd (m : Addr) (H : Hp) (o : HO) : Grow m H (upd H m o) := fun b u n h => by rw [upd_ne n]; exact h
theorem Grow.new {m p : Addr} {H : Hp} {o : HO} (h : H p = none) : Grow m H (L2.upd H p o) := fun b u n e => by rw [upd_ne (ne_of_none e h)]; exact e
theorem MOk.new {m c p : Addr} {H : Hp} {o : HO} {n : Nat} (M : MOk H m c n) (h : H p = none) : MOk (L2.upd H p o) m c n := by
  obtain ⟨l, sd, sp, cs, h1, h2, r⟩ := M.ex
  exact ⟨l, sd, sp, cs, by rw [upd_ne (ne_of_none h1 h)]; exact h1, by rw [upd_ne (ne_of_none h2 h)]; exact h2, r⟩
theorem MOk.set {m c p : Addr} {H : Hp} {o : HO} {n : Nat} (M : MOk H m c n) (h1 : p ≠ m) (h2 : p ≠ c) : MOk (L2.upd H p o) m c n := by
  obtain ⟨l, sd, sp, cs, e1, e2, r⟩ := M.ex
  exact ⟨l, sd, sp, cs, by rw [upd_ne h1.symm]; exact e1, by rw [upd_ne h2.symm]; exact e2, r⟩
theorem MOk.up {m c : Addr} {H : Hp} {n k : Nat} (M : MOk H m c n) (h : n ≤ k) : MOk H m c k := by
  obtain ⟨l, sd, sp, cs, h1, h2, h3, h4, h5, h6⟩ := M.ex
  exact ⟨l, sd, sp, cs, h1, h2, h3, h4, h5, by omega⟩

/-! ### the top's names -/
structure Txt (K : PySem.W.Frag) (mg : Str → Option Value) : Prop where
  int : mg "int" = none
  len : mg "len" = none

theorem modB (x : Int) {k : Int} (h : 0 < k) (h2 : k < 2 ^ 64) : -(2 ^ 64) < x % k ∧ x % k < 2 ^ 64 := by
  have a1 := Int.emod_nonneg x (b := k) (by omega)
  have a2 := Int.emod_lt_of_pos x (b := k) h
  omega
/-- _law_draw(m, many): a number from 0 to below many; one draw more -/
def spDraw : Sp := fun vs H Q _ => ∃ (m c : Addr) (many : Int) (n : Nat), vs = [.ref m, .int many] ∧ MOk H m c n ∧ n ≤ 100000 ∧ 0 < many ∧ many.natAbs < 2 ^ 8000 ∧
  ∀ (r : Int) (H' : Hp), 0 ≤ r → r < many → MOk H' m c (n + 1) → Grow m H H' → Q (.int r) H'
section
variable {P : Program} {w : World} {K : PySem.W.Frag} {mg : Str → Option Value} {base : Heap}
theorem scDraw : FnScope ["m", "many", "found", "spot", "cells", "added", "cell", "blend"] ["m", "many"] (defScope sDraw) := ⟨rfl, rfl, rfl, by decide +kernel, rfl, by decide +kernel, by decide +kernel⟩
theorem ok_draw {f : Addr} {fd : FuncData} (F : Fun K "_law_draw" "_law_draw" sDraw f fd) (T : Txt K mg) : FnOk P w K mg base CX0 1 f fd ["m", "many"] spDraw := by
  refine F.ok scDraw (fun vs H Q E h => ?_) (fun cdv A outer s H vs Q E hr h => ?_)
  · obtain ⟨m, c, many, n, rfl, _⟩ := h
    rfl
  · obtain ⟨m, c, many, n, rfl, M, hn, h0, h1, k⟩ := h
    have hu := hu_of hr
    obtain ⟨l, sd, sp, cs, e1, e2, c0, c1, s0, s1⟩ := M.ex
    have nd := scDraw.nd
    have mc : c ≠ m := ne_of e2 e1 (by intro z; cases z)
    refine ⟨_, pss_cons (ps_if (pt_cmpR op_gt (pe_dget hu (pv 0) pe_str (fun _ _ => rfl)) pe_int (nomark _))
        (pss_cons (ps_set (i := 2) nd rfl (Or.inl rfl) (pe_op op_mod (pe_callTy call_int1 (by rfl) T.int (by decide +kernel) (pa_cons (pe_dget hu (pv 0) pe_str (fun _ _ => rfl)) pa_nil)) (pv 1)))
        (pss_cons (ps_dput hu (pv 0) pe_str (pe_op op_fdivW (pe_dget hu (pv 0) pe_str (fun _ _ => rfl)) (pv 1)) rfl)
        (pss_one (ps_ret (pv 2))))) pss_nil)
      (pss_cons (ps_set (i := 3) nd rfl (Or.inl rfl) (pe_dget hu (pv 0) pe_str (fun _ _ => rfl)))
      (pss_cons (ps_dput hu (pv 0) pe_str (pe_op op_add (pv 3) pe_int) rfl)
      (pss_cons (ps_par (i := 4) (j := 5) (by rfl) nd rfl rfl (by decide) rfl rfl (pa_cons (pe_dget hu (pv 0) pe_str (fun _ _ => rfl))
          (pa_cons (pe_op op_add (pe_dget hu (pv 0) pe_str (fun _ _ => rfl)) (pe_op op_mul (pe_op op_mul pe_int (pv 3)) (pv 3))) pa_nil)) (by rfl))
      (pss_cons (ps_set (i := 6) nd rfl (Or.inl rfl) (pe_ix ix_list (pv 4) (pe_op op_mod (pe_callTy call_int1 (by rfl) T.int (by decide +kernel) (pa_cons (pv 3) pa_nil))
          (pe_callB call_len_seq (by rfl) T.len PySem.boot_len (pa_cons (pv 4) pa_nil))) (fun _ _ => rfl)))
      (pss_cons (ps_set (i := 7) nd rfl (Or.inl rfl) (pe_op op_mod (pe_callTy call_int1 (by rfl) T.int (by decide +kernel)
          (pa_cons (pe_op op_add (pe_op op_mul (pv 6) (pe_op op_add (pe_op op_mul pe_int (pv 3)) pe_int)) (pv 5)) pa_nil)) pe_int))
      (pss_cons (ps_set (i := 7) nd rfl (Or.inl rfl) (pe_op op_mod (pe_callTy call_int1 (by rfl) T.int (by decide +kernel)
          (pa_cons (pe_op op_add (pe_op op_add (pe_op op_mul (pv 7) (pv 7)) (pe_op op_mul pe_int (pv 3))) (pe_dget hu (pv 0) pe_str (fun _ _ => rfl))) pa_nil)) pe_int))
      (pss_one (ps_ret (pe_op op_mod (pe_op op_fdiv (pe_op op_mod (pe_callTy call_int1 (by rfl) T.int (by decide +kernel)
          (pa_cons (pe_op op_add (pe_op op_mul (pv 7) pe_int) (pv 3)) pa_nil)) pe_int) pe_int) (pv 1)))))))))), ?_⟩
    refine ⟨_, rfl, m, _, rfl, g_left e1, _, _, rfl, rfl, _, rfl, ?_⟩
    refine ite2 (fun hl => ?_) (fun hl => ?_)
    · -- the digits of a great cell
      refine ⟨_, rfl, m, _, rfl, g_left e1, .inl ⟨_, rfl, ?_⟩⟩
      refine ⟨_, rfl, _, _, rfl, rfl, h0, ?_⟩
      refine ⟨_, rfl, m, _, rfl, g_left e1, _, rfl, _, _, rfl, rfl, wide_div h0 h1 (by decide) (by decide), ?_⟩
      refine ⟨_, rfl, m, _, rfl, u_left _ e1, ?_⟩
      refine ⟨_, rfl, ?_⟩
      refine k _ _ (Int.emod_nonneg _ (by omega)) (Int.emod_lt_of_pos _ h0) ⟨⟨_, sd, sp, cs, upd_same, by rw [upd_ne mc]; exact e2, c0, c1, s0, by omega⟩⟩ (Grow.upd _ _ _)
    · have e1' : upd H m (.dK (mD l sd c (sp + 1))) m = some (.dK (mD l sd c (sp + 1))) := upd_same
      have e2' : upd H m (.dK (mD l sd c (sp + 1))) c = some (.lst (cs.map V.int)) := by rw [upd_ne mc]; exact e2
      have hsp : (-(2 ^ 64) < sp ∧ sp < 2 ^ 64) := by omega
      have h3 : (-(2 ^ 64) < 2 * sp + 3 ∧ 2 * sp + 3 < 2 ^ 64) := by omega
      have hx : ∃ i : Nat, sp % ((cs.map V.int).length : Int) = (i : Int) ∧ ∃ z, cs[i]? = some z := by
        rw [List.length_map]
        have a1 := Int.emod_nonneg sp (b := (cs.length : Int)) (by omega)
        have a2 := Int.emod_lt_of_pos sp (b := (cs.length : Int)) (by omega)
        refine ⟨(sp % (cs.length : Int)).toNat, by omega, ?_⟩
        have a3 : (sp % (cs.length : Int)).toNat < cs.length := by omega
        exact ⟨_, List.getElem?_eq_getElem a3⟩
      obtain ⟨i, hi, z, hz⟩ := hx
      have hz' : (cs.map V.int)[i]? = some (.int z) := by rw [List.getElem?_map, hz]; rfl
      -- spot = m['spot']; m['spot'] = spot + 1
      refine ⟨_, rfl, m, _, rfl, g_spot e1, ?_⟩
      refine ⟨_, rfl, _, _, rfl, rfl, _, rfl, m, _, rfl, u_spot _ e1, ?_⟩
      -- cells, added
      refine ⟨_, rfl, m, _, rfl, g_cells e1', ?_⟩
      refine ⟨_, rfl, m, _, rfl, g_seed e1', ?_⟩
      refine ⟨_, rfl, _, _, rfl, rfl, .inr hsp, ?_⟩
      refine ⟨_, rfl, _, _, rfl, rfl, .inr hsp, ?_⟩
      refine ⟨_, _, rfl, rfl, ?_⟩
      refine ⟨_, _, rfl, ?_⟩
      -- cell
      refine ⟨_, rfl, ?_⟩
      refine ⟨_, rfl, .inl ⟨_, rfl, ?_⟩⟩
      refine ⟨_, rfl, c, _, rfl, .inl (SqL.of e2'), ?_⟩
      refine ⟨_, _, rfl, rfl, (by rw [List.length_map]; omega), ?_⟩
      refine ⟨c, _, _, _, rfl, rfl, SqL.of e2', (by rw [hi]; exact atI_nat hz'), ?_⟩
      -- blend
      refine ⟨_, rfl, ?_⟩
      refine ⟨_, rfl, _, _, rfl, rfl, .inl ⟨by decide, by decide⟩, ?_⟩
      refine ⟨_, _, rfl, rfl, ?_⟩
      refine ⟨_, _, rfl, rfl, .inr h3, ?_⟩
      refine ⟨_, rfl, _, _, rfl, rfl, .inl ⟨_, rfl, ?_⟩⟩
      refine ⟨_, _, rfl, rfl, (by show (0 : Int) < 2147483647; decide), ?_⟩
      -- blend
      refine ⟨_, rfl, _, rfl, _, _, rfl, rfl, .inl (modB _ (by decide) (by decide)), ?_⟩
      refine ⟨_, rfl, _, _, rfl, rfl, .inr hsp, ?_⟩
      refine ⟨_, _, rfl, rfl, ?_⟩
      refine ⟨_, rfl, m, _, rfl, g_seed e1', ?_⟩
      refine ⟨_, _, rfl, rfl, .inl ⟨_, rfl, ?_⟩⟩
      refine ⟨_, _, rfl, rfl, (by show (0 : Int) < 2147483629; decide), ?_⟩
      -- the end
      refine ⟨_, rfl, _, _, rfl, rfl, .inl (modB _ (by decide) (by decide)), ?_⟩
      refine ⟨_, rfl, _, _, rfl, rfl, .inl ⟨_, rfl, ?_⟩⟩
      refine ⟨_, _, rfl, rfl, (by show (0 : Int) < 2147483647; decide), ?_⟩
      refine ⟨_, _, rfl, rfl, ⟨by decide, by decide⟩, ?_⟩
      refine ⟨_, rfl, _, _, rfl, rfl, h0, ?_⟩
      refine k _ _ (Int.emod_nonneg _ (by omega)) (Int.emod_lt_of_pos _ h0) ⟨⟨l, sd, _, cs, upd_same, e2', c0, c1, by omega, by omega⟩⟩ (Grow.upd _ _ _)
end
end K2
set_option Elab.async false
set_option linter.all false
set_option maxRecDepth 100000
set_option maxHeartbeats 4000000
namespace K2
open PySem L2 Gd
/-! ### a def of the top, as others call it -/
structure At (K : PySem.W.Frag) (mg : Str → Option Value) (x : Str) (st : Stmt) (ps : List Str) (f : Addr) (fd : FuncData) : Prop where
  F : Fun K x x st f fd
  g : mg x = some (.ref f)
  b : Binds K fd ps []
/-! ### kinds of data -/
def kd : PyData → String
  | .none => "NoneType"
  | .bool _ => "bool"
  | .int _ => "int"
  | .str _ => "str"
  | .list _ => "list"
  | .tuple _ => "tuple"
  | .dict _ => "dict"
theorem _root_.Gd.Da.ty {K : PySem.W.Frag} {H : Hp} {v : V} {d : PyData} (h : Da H v d) : TyX K H v (.type (kd d)) := by
  cases h with
  | non => exact .base .non
  | bl b => exact .base (.bl b)
  | int i => exact .base (.int i)
  | str x => exact .base (.str x)
  | lst e _ => exact .base (.lst e)
  | tup e _ => exact .base (.tup e)
  | dic e _ => exact .base (.dK e)
def isT (c : String) (d : PyData) : Bool := kitB (kd d) c == some true
theorem kit_int (d : PyData) : kitB (kd d) "int" = some (match d with | .int _ => true | .bool _ => true | _ => false) := by
  cases d with
  | none => exact (by decide +kernel : kitB "NoneType" "int" = some false)
  | bool b => exact (by decide +kernel : kitB "bool" "int" = some true)
  | int i => exact (by decide +kernel : kitB "int" "int" = some true)
  | str x => exact (by decide +kernel : kitB "str" "int" = some false)
  | list xs => exact (by decide +kernel : kitB "list" "int" = some false)
  | tuple xs => exact (by decide +kernel : kitB "tuple" "int" = some false)
  | dict ks => exact (by decide +kernel : kitB "dict" "int" = some false)
theorem kit_bool (d : PyData) : kitB (kd d) "bool" = some (match d with | .bool _ => true | _ => false) := by
  cases d with
  | none => exact (by decide +kernel : kitB "NoneType" "bool" = some false)
  | bool b => exact (by decide +kernel : kitB "bool" "bool" = some true)
  | int i => exact (by decide +kernel : kitB "int" "bool" = some false)
  | str x => exact (by decide +kernel : kitB "str" "bool" = some false)
  | list xs => exact (by decide +kernel : kitB "list" "bool" = some false)
  | tuple xs => exact (by decide +kernel : kitB "tuple" "bool" = some false)
  | dict ks => exact (by decide +kernel : kitB "dict" "bool" = some false)
theorem kit_tuple (d : PyData) : kitB (kd d) "tuple" = some (match d with | .tuple _ => true | _ => false) := by
  cases d with
  | none => exact (by decide +kernel : kitB "NoneType" "tuple" = some false)
  | bool b => exact (by decide +kernel : kitB "bool" "tuple" = some false)
  | int i => exact (by decide +kernel : kitB "int" "tuple" = some false)
  | str x => exact (by decide +kernel : kitB "str" "tuple" = some false)
  | list xs => exact (by decide +kernel : kitB "list" "tuple" = some false)
  | tuple xs => exact (by decide +kernel : kitB "tuple" "tuple" = some true)
  | dict ks => exact (by decide +kernel : kitB "dict" "tuple" = some false)
theorem kit_list (d : PyData) : kitB (kd d) "list" = some (match d with | .list _ => true | _ => false) := by
  cases d with
  | none => exact (by decide +kernel : kitB "NoneType" "list" = some false)
  | bool b => exact (by decide +kernel : kitB "bool" "list" = some false)
  | int i => exact (by decide +kernel : kitB "int" "list" = some false)
  | str x => exact (by decide +kernel : kitB "str" "list" = some false)
  | list xs => exact (by decide +kernel : kitB "list" "list" = some true)
  | tuple xs => exact (by decide +kernel : kitB "tuple" "list" = some false)
  | dict ks => exact (by decide +kernel : kitB "dict" "list" = some false)
theorem kit_str (d : PyData) : kitB (kd d) "str" = some (match d with | .str _ => true | _ => false) := by
  cases d with
  | none => exact (by decide +kernel : kitB "NoneType" "str" = some false)
  | bool b => exact (by decide +kernel : kitB "bool" "str" = some false)
  | int i => exact (by decide +kernel : kitB "int" "str" = some false)
  | str x => exact (by decide +kernel : kitB "str" "str" = some true)
  | list xs => exact (by decide +kernel : kitB "list" "str" = some false)
  | tuple xs => exact (by decide +kernel : kitB "tuple" "str" = some false)
  | dict ks => exact (by decide +kernel : kitB "dict" "str" = some false)
theorem isi_da {K : PySem.W.Frag} {H : Hp} {v : V} {d : PyData} {c : String} {b : Bool} {Q : VK} (h : Da H v d) (e : kitB (kd d) c = some b) (q : Q (.bl b) H) : rIsi K [v, .ty c] H Q :=
  ⟨v, .ty c, .type (kd d), .type c, b, rfl, .ty c, h.ty, kit_ty e, q⟩
/-- an integer between two bounds -/
def betw (d : PyData) (lo hi : Int) : Bool := match d with
  | .int i => decide (lo ≤ i) && decide (i ≤ hi)
  | _ => false
structure TxI (mg : Str → Option Value) : Prop where
  isinstance : mg "isinstance" = none
  int : mg "int" = none
  bool : mg "bool" = none
/-- an integer, no truth -/
def wholeD (d : PyData) : Bool := match d with
  | .int _ => true
  | _ => false
/-- is_whole(value) -/
def spWh : Sp := fun vs H Q _ => ∃ (v : V) (d : PyData), vs = [v] ∧ Da H v d ∧ Q (.bl (wholeD d)) H
/-- is_between(value, low, high), _law_is_int(thing, least, most) -/
def spBet : Sp := fun vs H Q _ => ∃ (v : V) (d : PyData) (lo hi : Int), vs = [v, .int lo, .int hi] ∧ Da H v d ∧ Q (.bl (betw d lo hi)) H
section
variable {P : Program} {w : World} {K : PySem.W.Frag} {mg : Str → Option Value} {base : Heap}
theorem pure_bet {v : V} {d : PyData} {lo hi : Int} {H : Hp} {Q : VK} (hd : Da H v d) (q : Q (.bl (betw d lo hi)) H) :
    tAndV (tCB (rIsi K) (tCons (tVar 0) (tCons (tC (.ty "int")) tNil))) (tAndV (tNotV (tCB (rIsi K) (tCons (tVar 0) (tCons (tC (.ty "bool")) tNil)))) (tChain (rI0 fun i j => .bl (decide (i ≤ j))) (rI0 fun i j => .bl (decide (i ≤ j))) (tVar 1) (tVar 0) (tVar 2)))
      [some v, some (.int lo), some (.int hi)] H Q := by
  refine ⟨_, rfl, _, _, _, _, _, rfl, .ty _, hd.ty, kit_ty (kit_int d), _, rfl, ?_⟩
  cases hd with
  | non => exact iteF q
  | str x => exact iteF q
  | lst e r => exact iteF q
  | tup e r => exact iteF q
  | dic e r => exact iteF q
  | bl b =>
    refine iteT ?_
    refine ⟨_, rfl, _, _, _, _, _, rfl, .ty _, (Da.bl (H := H) b).ty, kit_ty (kit_bool (.bool b)), _, rfl, _, rfl, ?_⟩
    exact iteF q
  | int i =>
    refine iteT ?_
    refine ⟨_, rfl, _, _, _, _, _, rfl, .ty _, (Da.int (H := H) i).ty, kit_ty (kit_bool (.int i)), _, rfl, _, rfl, ?_⟩
    refine iteT ?_
    refine ⟨_, rfl, _, rfl, _, _, rfl, rfl, _, rfl, ?_⟩
    have q' : Q (.bl (decide (lo ≤ i) && decide (i ≤ hi))) H := q
    by_cases h : lo ≤ i
    · rw [decide_eq_true h] at q' ⊢
      refine iteT ⟨_, rfl, _, _, rfl, rfl, ?_⟩
      rw [Bool.true_and] at q'
      exact q'
    · rw [decide_eq_false h] at q' ⊢
      exact iteF q'
theorem pure_wh {v : V} {d : PyData} {H : Hp} {Q : VK} (hd : Da H v d) (q : Q (.bl (wholeD d)) H) :
    tAndV (tCB (rIsi K) (tCons (tVar 0) (tCons (tC (.ty "int")) tNil))) (tNotV (tCB (rIsi K) (tCons (tVar 0) (tCons (tC (.ty "bool")) tNil))))
      [some v] H Q := by
  refine ⟨_, rfl, _, _, _, _, _, rfl, .ty _, hd.ty, kit_ty (kit_int d), _, rfl, ?_⟩
  cases hd with
  | non => exact iteF q
  | str x => exact iteF q
  | lst e r => exact iteF q
  | tup e r => exact iteF q
  | dic e r => exact iteF q
  | bl b => exact iteT ⟨_, rfl, _, _, _, _, _, rfl, .ty _, (Da.bl (H := H) b).ty, kit_ty (kit_bool (.bool b)), _, rfl, q⟩
  | int i => exact iteT ⟨_, rfl, _, _, _, _, _, rfl, .ty _, (Da.int (H := H) i).ty, kit_ty (kit_bool (.int i)), _, rfl, q⟩
theorem scWh : FnScope ["value"] ["value"] (defScope sWh) := ⟨rfl, rfl, rfl, by decide +kernel, rfl, by decide +kernel, by decide +kernel⟩
theorem ok_wh {f : Addr} {fd : FuncData} (F : Fun K "is_whole" "is_whole" sWh f fd) (T : TxI mg) : FnOk P w K mg base CX0 1 f fd ["value"] spWh := by
  refine F.ok scWh (fun vs H Q E h => ?_) (fun cdv A outer s H vs Q E hr h => ?_)
  · obtain ⟨v, d, rfl, _⟩ := h
    rfl
  · obtain ⟨v, d, rfl, hd, q⟩ := h
    refine ⟨_, pss_one (ps_ret (pe_and (pe_callB call_isi (by rfl) T.isinstance (by decide +kernel) (pa_cons (pv 0) (pa_cons (pe_bltn (v := .ty "int") (by rfl) T.int (by decide +kernel) rfl) pa_nil)))
      (pe_one (pe_not (pe_callB call_isi (by rfl) T.isinstance (by decide +kernel) (pa_cons (pv 0) (pa_cons (pe_bltn (v := .ty "bool") (by rfl) T.bool (by decide +kernel) rfl) pa_nil))))))), ?_⟩
    exact pure_wh hd q
theorem scBet : FnScope ["value", "low", "high"] ["value", "low", "high"] (defScope sBet) := ⟨rfl, rfl, rfl, by decide +kernel, rfl, by decide +kernel, by decide +kernel⟩
theorem ok_bet {f : Addr} {fd : FuncData} (F : Fun K "is_between" "is_between" sBet f fd) (T : TxI mg) (TW : ∃ (fW : Addr) (fdW : FuncData), At K mg "is_whole" sWh ["value"] fW fdW) : FnOk P w K mg base CX0 2 f fd ["value", "low", "high"] spBet := by
  obtain ⟨fW, fdW, aW⟩ := TW
  have GW : FnOk P w K mg base CX0 1 fW fdW ["value"] spWh := ok_wh aW.F T
  refine F.ok scBet (fun vs H Q E h => ?_) (fun cdv A outer s H vs Q E hr h => ?_)
  · obtain ⟨v, d, lo, hi, rfl, _⟩ := h
    rfl
  · obtain ⟨v, d, lo, hi, rfl, hd, q⟩ := h
    refine ⟨_, pss_one (ps_ret (pe_and (pe_call GW hr rfl aW.g aW.F.kp aW.b .nil pass0 (pa_cons (pv 0) pa_nil))
        (pe_one (pe_chain op_le op_le (pv 1) (pv 0) (pv 2))))), ?_⟩
    refine ⟨_, rfl, v, d, rfl, hd, ?_⟩
    cases hd with
    | non => exact ⟨_, rfl, iteF q⟩
    | str x => exact ⟨_, rfl, iteF q⟩
    | lst e r => exact ⟨_, rfl, iteF q⟩
    | tup e r => exact ⟨_, rfl, iteF q⟩
    | dic e r => exact ⟨_, rfl, iteF q⟩
    | bl b => exact ⟨_, rfl, iteF q⟩
    | int i =>
      refine ⟨_, rfl, iteT ?_⟩
      refine ⟨_, rfl, _, rfl, _, _, rfl, rfl, _, rfl, ?_⟩
      have q' : Q (.bl (decide (lo ≤ i) && decide (i ≤ hi))) H := q
      by_cases h : lo ≤ i
      · rw [decide_eq_true h] at q' ⊢
        refine iteT ⟨_, rfl, _, _, rfl, rfl, ?_⟩
        rw [Bool.true_and] at q'
        exact q'
      · rw [decide_eq_false h] at q' ⊢
        exact iteF q'
theorem scIsInt : FnScope ["thing", "least", "most"] ["thing", "least", "most"] (defScope sIsInt) := ⟨rfl, rfl, rfl, by decide +kernel, rfl, by decide +kernel, by decide +kernel⟩
theorem ok_isint {f : Addr} {fd : FuncData} (F : Fun K "_law_is_int" "_law_is_int" sIsInt f fd) (T : TxI mg) : FnOk P w K mg base CX0 1 f fd ["thing", "least", "most"] spBet := by
  refine F.ok scIsInt (fun vs H Q E h => ?_) (fun cdv A outer s H vs Q E hr h => ?_)
  · obtain ⟨v, d, lo, hi, rfl, _⟩ := h
    rfl
  · obtain ⟨v, d, lo, hi, rfl, hd, q⟩ := h
    refine ⟨_, pss_one (ps_ret (pe_and (pe_callB call_isi (by rfl) T.isinstance (by decide +kernel) (pa_cons (pv 0) (pa_cons (pe_bltn (v := .ty "int") (by rfl) T.int (by decide +kernel) rfl) pa_nil)))
      (pe_and (pe_not (pe_callB call_isi (by rfl) T.isinstance (by decide +kernel) (pa_cons (pv 0) (pa_cons (pe_bltn (v := .ty "bool") (by rfl) T.bool (by decide +kernel) rfl) pa_nil))))
        (pe_one (pe_chain op_le op_le (pv 1) (pv 0) (pv 2)))))), ?_⟩
    exact pure_bet hd q
end
end K2
set_option Elab.async false
set_option linter.all false
set_option maxRecDepth 100000
set_option maxHeartbeats 4000000
/-! for i, x in enumerate(t), t a tuple -/
namespace Gd
open PySem PySem.Spec PyProof.Rows L2
theorem meets_en1 {v : Value} {o : Obj} {Z : Heap → Prop} (B : Begins v o Z) :
    Meets (Builtin.«enumerate.__new__» ⟨[.type "enumerate", v], []⟩) (fun _ R s => Z s.heap ∧
      R (.ok (.ret (.ref (s.heap.push o).objs.size)))
        { s with heap := (s.heap.push o).push { cls := .type "enumerate", data := .fields #[.none, .bool false, .ref s.heap.objs.size, rawInt 0, .none, .none] } }) :=
  .of_wp fun prog w A R s h => by
    obtain ⟨hp, g, d, tk, os⟩ := s
    obtain ⟨h1, h⟩ := h
    have hsub := sub_enumerate
    have q1 : ∀ {A' : Around} {E : Value → Shared → Prop} {Q : Value → Shared → Prop}, Q (.ref hp.objs.size) ⟨hp.push o, g, d, tk, os⟩ →
        wpAny (model prog w) A' (pyIter v) Q E ⟨hp, g, d, tk, os⟩ := fun q => B.iter prog w _ _ ⟨hp, g, d, tk, os⟩ _ h1 q
    wp_walk using q1
    refine wpAny_stack_any fun st => wpAny_pure ?_
    split
    · rename_i c _ _ _ _ _
      cases (c == Value.type "enumerate")
      all_goals (wp_walk using q1; exact ⟨_, rfl, h⟩)
    · wp_walk using q1
      exact ⟨_, rfl, h⟩
theorem call_en1 {prog : Program} {w : World} {A : Around} {E : Value → Shared → Prop} {s : Shared} {v : Value} {o : Obj} {Z : Heap → Prop} {Q : Value → Shared → Prop} (B : Begins v o Z) (h1 : Z s.heap)
    (h : ∀ h', IsEnum h' (s.heap.objs.size + 1) s.heap.objs.size 0 .none → h'.get? s.heap.objs.size = some o → h'.objs.size = s.heap.objs.size + 2 →
      (∀ b o, s.heap.get? b = some o → h'.get? b = some o) → Q (.ref (s.heap.objs.size + 1)) { s with heap := h' }) :
    wpAny (model prog w) A (call (.type "enumerate") [v]) Q E s := by
  refine callType_new F.called_enumerate (by decide) (F.typeCall_enumerate_1 _) (F.newCall_enumerate_1 _) (fun obj => F.args_object_init_2 obj _) F.entry_enumerate_new
    (meets_en1 B) ⟨h1, ?_⟩
  have hz : (s.heap.push o).objs.size = s.heap.objs.size + 1 := Heap.size_push ..
  show _ ∧ _
  rw [hz]
  have he : IsEnum ((s.heap.push o).push { cls := .type "enumerate", data := .fields #[.none, .bool false, .ref s.heap.objs.size, rawInt 0, .none, .none] })
      (s.heap.objs.size + 1) s.heap.objs.size 0 .none := by
    have q := Heap.get?_push_size (s.heap.push o) (o := { cls := .type "enumerate", data := .fields #[.none, .bool false, .ref s.heap.objs.size, rawInt 0, .none, .none] }) rfl
    rw [hz] at q
    exact q
  refine ⟨⟨_, he, rfl⟩, h _ he (Heap.get?_push_of_some _ (Heap.get?_push_size _ B.free)) (by rw [Heap.size_push, hz]) ?_⟩
  exact fun b o x => Heap.get?_push_of_some _ (Heap.get?_push_of_some _ x)

/-- the tuple at a, each item in a new pair -/
def ItE (K : PySem.W.Frag) (a : Addr) : It :=
  ⟨fun i H => ∃ (xs : List V) (x : V), SqT K H a xs ∧ xs[i]? = some x,
   fun i H v H' => ∃ T x, v = .ref T ∧ H T = none ∧ H' = upd H T (.tup [.int (i : Nat), x]) ∧ ∀ xs, SqT K H a xs → xs[i]? = some x,
   fun i H => ∃ xs : List V, SqT K H a xs ∧ xs.length = i⟩
theorem turn_enumT {P : Program} {w : World} {K : PySem.W.Frag} {elts : List Expr} {kk : Nat} {tpos : Pos} (a e it : Addr) :
    Turn P w K (.Tuple elts kk tpos) (ItE K a) [e, it] e (fun i h => (∃ old, IsEnum h e it ((i : Nat) : Int) old) ∧ h.IsTupleIter it a i ∧ e ≠ it ∧ a ≠ it ∧ e ≠ a) where
  mem := by simp
  obj := fun i h st b hb => by
    obtain ⟨⟨old, he⟩, ⟨o, ho, hc, hd⟩, _⟩ := st
    rcases (show b = e ∨ b = it by simpa using hb) with z | z
    · rw [z]
      exact ⟨_, he, fun v q => nomatch q⟩
    · rw [z]
      exact ⟨o, ho, fun v q => by rw [hd] at q; cases q⟩
  keep := fun i h h' st k => by
    obtain ⟨⟨old, he⟩, hi, hne⟩ := st
    exact ⟨⟨old, k e (by simp) _ he⟩, hi.at fun o q => k it (by simp) o q, hne⟩
  item := by
    intro X hP hw hK hc i pins s σ H E I hf st hg
    subst hP hw hK
    obtain ⟨⟨old, he⟩, hit, hne, hai, hea⟩ := st
    obtain ⟨xs, x, hq, hx⟩ := hg
    obtain ⟨its, rv, p, hz⟩ := I.tuple hq
    obtain ⟨u, hu, ru⟩ := rv.get hx
    have hel : e < s.heap.objs.size := Heap.lt_size he
    have hil : it < s.heap.objs.size := by
      obtain ⟨_, q, _⟩ := hit
      exact Heap.lt_size q
    have hi : i < its.toArray.size := by
      have := (List.getElem?_eq_some_iff.mp hu).1
      simpa using this
    refine wpAny_pyNext_enum_itemD (Draws.tuple (A := X.A.in1) (I.ok.hd hc) it a hai its.toArray) he ⟨hit, p⟩ hi hne (by simp [hne, hea]) ?_
    intro x' h' tk hx' ho hst hT hsz hk
    have eu : x' = u := by
      have q : its[i]? = some x' := by simpa using hx'
      rw [hu] at q
      exact (Option.some.inj q).symm
    subst eu
    refine ⟨_, rfl, wpAny_letOwnedTupleGo_enum (s := { s with heap := h', toks := tk + 1 }) ho fun h'' he' sb => ?_⟩
    have hT2 : h''.get? s.heap.objs.size = some { cls := .type "tuple", data := .seq #[.int i tk, x'] } := (sb.2 _ (Nat.ne_of_gt hel)).trans hT
    have new : ObjOk X.prog X.w (upd H s.heap.objs.size (.tup [.int (i : Nat), x])) h'' s.heap.objs.size (.tup [.int (i : Nat), x]) :=
      ⟨by show 2 ≤ sizeLine; decide, [.int i tk, x'], .cons ⟨_, rfl⟩ (.cons ru .nil), ⟨_, hT2, rfl, _, rfl⟩⟩
    have I1 : Inv X pins σ (upd H s.heap.objs.size (.tup [.int (i : Nat), x])) { s with heap := h'', toks := tk + 1 } :=
      I.turnedNew (ch := [e, it]) (fun b ob hb q => (sb.2 b (fun z => hb (by simp [z]))).trans (hk b ob (fun z => hb (by simp [z])) (fun z => hb (by simp [z])) q)) hf (Nat.le_refl _) new
    refine ⟨.ref s.heap.objs.size, _, I1, rfl, ⟨_, x, rfl, I.hok.fresh (Nat.le_refl _), rfl, fun ys hy => by rw [I.tuple_inj hy hq]; exact hx⟩,
      ⟨⟨x', ?_⟩, hst.1.at fun o q => (sb.2 it (Ne.symm hne)).trans q, hne, hai, hea⟩, fun b hb => ?_⟩
    · have e1 : ((i + 1 : Nat) : Int) = (i : Int) + 1 := by omega
      rw [e1]
      exact he'
    · have hb' : b < s.heap.objs.size := by
        rcases (show b = e ∨ b = it by simpa using hb) with z | z
        · rw [z]; exact hel
        · rw [z]; exact hil
      rw [upd_ne (Nat.ne_of_lt hb')]
      exact (hf b hb).1
  done := by
    intro X hP hw hK hc i pins s σ H E I hf st hg
    subst hP hw hK
    obtain ⟨⟨old, he⟩, hit, hne, hai, hea⟩ := st
    obtain ⟨xs, hq, hx⟩ := hg
    obtain ⟨its, rv, p, hz⟩ := I.tuple hq
    obtain ⟨f0, f1, f2, f3, f4, f5⟩ := hf it (by simp)
    have hl := rv.length
    have ei : i = its.toArray.size := by
      rw [List.size_toArray, ← hl]
      exact hx.symm
    rw [ei] at hit
    exact wpAny_pyNext_enum_endD (Draws.tuple (A := X.A.in1) (I.ok.hd hc) it a hai its.toArray) he ⟨hit, p⟩
      fun h' eb => ⟨rfl, I.turned (t' := s.toks) (fun b o hb q => eb b o hb q) f0 f1 f3 f4 f5⟩
  self := fun A i s Q E st h => let ⟨⟨_, he⟩, _⟩ := st; wpAny_pyIter_enum he h
def iEnT (K : PySem.W.Frag) (ta : TA) : TI := fun σ H R => ta σ H fun vs H1 => ∃ a xs, vs = [.ref a] ∧ SqT K H1 a xs ∧ R (ItE K a) H1
theorem pi_enT {X : Cx} {e : Expr} {ta : TA} {p pos tpos : Pos} {elts : List Expr} {kk : Nat} (hg : Gl X "enumerate") (hm : X.mg "enumerate" = none) (ha : PA X [e] ta)
    (hs : starEach [e] X.env = [(false, eval e X.env)] := by rfl) :
    PI X (.Tuple elts kk tpos) (.Call (.Name "enumerate" p) [e] [] pos) (iEnT X.K ta) := by
  constructor
  intro pins s σ H R I h
  refine Call_ (ld_blt I hg hm boot_enumerate (PyProof.Rows.callWith_type1 (thn (ha.run pos pins s σ H _ I h) ?_) hs rfl))
  rintro us s1 ⟨vs, H1, I1, r1, a, xs, ex, hq, q⟩
  subst ex
  cases r1 with
  | cons r rr =>
    cases rr
    cases r
    obtain ⟨its, rv, p', hz⟩ := I1.tuple hq
    refine call_en1 (begins_tuple a its.toArray) p' ?_
    intro h' he hit hsz hk
    refine wpAny_pyIter_enum he ?_
    have J : Inv X pins σ H1 { s1 with heap := h' } := I1.kept (t' := s1.toks) hk
    have hal : a < s1.heap.objs.size := by
      obtain ⟨o, ho, _⟩ := p'
      exact Heap.lt_size ho
    refine ⟨s1.heap.objs.size + 1, [s1.heap.objs.size + 1, s1.heap.objs.size], _, _, H1, rfl, J, turn_enumT a (s1.heap.objs.size + 1) s1.heap.objs.size,
      ⟨⟨.none, he⟩, ⟨_, hit, rfl, rfl⟩, Nat.succ_ne_self _, Nat.ne_of_lt hal, Nat.ne_of_gt (Nat.lt_succ_of_lt hal)⟩, ?_, q⟩
    intro b hb
    have hle : s1.heap.objs.size ≤ b := by
      rcases (show b = s1.heap.objs.size + 1 ∨ b = s1.heap.objs.size by simpa using hb) with z | z
      · rw [z]; exact Nat.le_add_right _ _
      · rw [z]; exact Nat.le_refl _
    exact I1.fpOk hle (I1.hok.fresh hle)
theorem walk_enT {K : PySem.W.Frag} {a : Addr} {xs : List V} : Walk (ItE K a) xs.length (fun H => SqT K H a xs) (YPair (fun i => some (.int (i : Nat))) (fun i => xs[i]?)) := by
  constructor
  · exact fun i _ hi q => ⟨xs, xs[i], q, by simp [hi]⟩
  · exact fun _ q => ⟨xs, q, rfl⟩
  · rintro i H v H' _ q ⟨T, x, h1, h2, h3, h4⟩
    exact ⟨T, .int (i : Nat), x, h1, h2, h3, rfl, h4 xs q⟩
end Gd
set_option Elab.async false
set_option linter.all false
set_option maxRecDepth 100000
set_option maxHeartbeats 4000000
namespace Gd
open PySem L2
theorem DaL.get {H : Hp} : ∀ {vs : List V} {ds : List PyData} {i : Nat} {v : V}, DaL H vs ds → vs[i]? = some v → ∃ d, ds[i]? = some d ∧ Da H v d
  | _, _, _, _, .nil, e => by simp at e
  | _, _, 0, _, .cons h _, e => by
    simp at e
    subst e
    exact ⟨_, rfl, h⟩
  | _, _, i + 1, v, .cons _ r, e => by
    obtain ⟨d, h1, h2⟩ := DaL.get (i := i) r (by simpa using e)
    exact ⟨d, by simpa using h1, h2⟩
theorem da_ints {H : Hp} : ∀ ps : List Int, DaL H (ps.map V.int) (ps.map PyData.int)
  | [] => .nil
  | i :: r => .cons (.int i) (da_ints r)
end Gd
namespace K2
open PySem L2 Gd PySem.ExG
/-! ### where a thing is wrong as a plan -/
def bigGap : Int := 10 ^ 30
def badGap : Nat → List PyData → Option (List Int)
  | _, [] => none
  | i, d :: ds => if betw d 1 bigGap = true then badGap (i + 1) ds else some [1, (i : Int)]
def plcG : PyData → Option (List Int)
  | .tuple gs => if 1 ≤ gs.length ∧ gs.length ≤ 8 then badGap 0 gs else some [1]
  | _ => some [1]
def plc : PyData → Option (List Int)
  | .tuple [h, g] => if betw h 1 3 = true then plcG g else some [0]
  | _ => some []
def plD (p : List Int) : PyData := .tuple (p.map .int)
theorem badGap_step {gs : List PyData} {i : Nat} {d : PyData} (h : gs[i]? = some d) : badGap i (gs.drop i) = if betw d 1 bigGap = true then badGap (i + 1) (gs.drop (i + 1)) else some [1, (i : Int)] := by
  obtain ⟨hi, e⟩ := List.getElem?_eq_some_iff.mp h
  rw [List.drop_eq_getElem_cons hi, e]
  rfl
theorem plc_short {ds : List PyData} (h : ds.length ≠ 2) : plc (.tuple ds) = some [] := by
  match ds, h with
  | [], _ => rfl
  | [_], _ => rfl
  | [_, _], h => exact absurd rfl h
  | _ :: _ :: _ :: _, _ => rfl
theorem plc_kind {d : PyData} (h : ∀ ds, d ≠ .tuple ds) : plc d = some [] := by
  cases d with
  | tuple ds => exact absurd rfl (h ds)
  | _ => rfl
theorem plc_two (h g : PyData) : plc (.tuple [h, g]) = if betw h 1 3 = true then plcG g else some [0] := rfl
theorem plcG_kind {d : PyData} (h : ∀ ds, d ≠ .tuple ds) : plcG d = some [1] := by
  cases d with
  | tuple ds => exact absurd rfl (h ds)
  | _ => rfl
theorem _root_.L2.Same.da {H H' : Hp} {v : V} {d : PyData} (e : Same H H') (h : Da H v d) : Da H' v d := h.mono e
theorem Same.new {H : Hp} {p : Addr} {o : HO} (h : H p = none) : Same H (upd H p o) := fun b u e => by rw [upd_ne (ne_of_none e h)]; exact e
/-- behind raise BadPlan(place) -/
theorem fin_raise {H0 H : Hp} {p dd : Addr} {pl : List Int} {fs : List (Str × V)} (s0 : Same H0 H) (hp : H p = none) (hdd : upd H p (.tup (pl.map V.int)) dd = none) :
    Same H0 (upd (upd H p (.tup (pl.map V.int))) dd (.xd fs)) ∧ Da (upd (upd H p (.tup (pl.map V.int))) dd (.xd fs)) (.ref p) (plD pl) :=
  ⟨(s0.trans (Same.new hp)).trans (Same.new hdd), (Same.new hdd).da (.tup upd_same (da_ints pl))⟩

/-- is_gap(value) -/
def spGap : Sp := fun vs H Q _ => ∃ (v : V) (d : PyData), vs = [v] ∧ Da H v d ∧ Q (.bl (betw d 1 bigGap)) H
/-- need_plan(thing): itself, or BadPlan with the place -/
def spNeed (C : Addr) : Sp := fun vs H Q E => ∃ (v : V) (d : PyData), vs = [v] ∧ Da H v d ∧ (∀ H', plc d = none → Same H H' → Q v H') ∧
  ∀ (p : List Int) (pv : V) (dd : Addr) (H' : Hp), plc d = some p → Same H H' → H' dd = some (.xd [("place", pv)]) → Da H' pv (plD p) → E (.ref C) (some dd) H'
structure TxN (pr : Program) (K : PySem.W.Frag) (mg : Str → Option Value) (C fI fB fG : Addr) (fdB fdG : FuncData) : Prop where
  ti : TxI mg
  tuple : mg "tuple" = none
  len : mg "len" = none
  enumerate : mg "enumerate" = none
  hands : ∃ t, mg "MOST_HANDS" = some (.int 3 t)
  things : ∃ t, mg "MOST_THINGS" = some (.int 8 t)
  gap : ∃ t, mg "MOST_GAP" = some (.int (10 ^ 30) t)
  wh : ∃ (fW : Addr) (fdW : FuncData), At K mg "is_whole" sWh ["value"] fW fdW
  bet : At K mg "is_between" sBet ["value", "low", "high"] fB fdB
  isg : At K mg "is_gap" sGap ["value"] fG fdG
  bad : ExTxt pr K mg "BadPlan" "place" "this is no plan" C fI
section
variable {P : Program} {w : World} {K : PySem.W.Frag} {mg : Str → Option Value} {base : Heap} {C fI fB fG : Addr} {fdB fdG : FuncData}
theorem scGap : FnScope ["value"] ["value"] (defScope sGap) := ⟨rfl, rfl, rfl, by decide +kernel, rfl, by decide +kernel, by decide +kernel⟩
theorem ok_gap {f : Addr} {fd : FuncData} (F : Fun K "is_gap" "is_gap" sGap f fd) (T : TxN P K mg C fI fB fG fdB fdG) : FnOk P w K mg base CX0 3 f fd ["value"] spGap := by
  have GB : FnOk P w K mg base CX0 2 fB fdB ["value", "low", "high"] spBet := ok_bet T.bet.F T.ti T.wh
  obtain ⟨tg, hg⟩ := T.gap
  refine F.ok scGap (fun vs H Q E h => ?_) (fun cdv A outer s H vs Q E hr h => ?_)
  · obtain ⟨v, d, rfl, _⟩ := h
    rfl
  · obtain ⟨v, d, rfl, hd, q⟩ := h
    refine ⟨_, pss_one (ps_ret (pe_call GB hr rfl T.bet.g T.bet.F.kp T.bet.b .nil pass0 (pa_cons (pv 0) (pa_cons pe_int (pa_cons (pe_glob (v := .int (10 ^ 30)) rfl hg ⟨_, rfl⟩) pa_nil))))), ?_⟩
    exact ⟨_, rfl, v, d, 1, 10 ^ 30, rfl, hd, q⟩
theorem scNeed : FnScope ["thing", "hands", "gaps", "number", "gap"] ["thing"] (defScope sNeed) := ⟨rfl, rfl, rfl, by decide +kernel, rfl, by decide +kernel, by decide +kernel⟩
theorem ok_need {f : Addr} {fd : FuncData} (F : Fun K "need_plan" "need_plan" sNeed f fd) (T : TxN P K mg C fI fB fG fdB fdG) : FnOk P w K mg base (L2.CX P w) 4 f fd ["thing"] (spNeed C) := by
  have GB : FnOk P w K mg base CX0 2 fB fdB ["value", "low", "high"] spBet := ok_bet T.bet.F T.ti T.wh
  have GG : FnOk P w K mg base CX0 3 fG fdG ["value"] spGap := ok_gap T.isg.F T
  obtain ⟨th, hh⟩ := T.hands
  obtain ⟨tt, ht⟩ := T.things
  refine F.okX scNeed (fun vs H Q E h => ?_) (fun cdv A outer s H vs Q E hr h => ?_)
  · obtain ⟨v, d, rfl, _⟩ := h
    rfl
  · obtain ⟨v, d, rfl, hd, kq, ke⟩ := h
    have nd := scNeed.nd
    have hr1 : Room 2 _ := hr.mono (by decide)
    have hr2 : Room 3 _ := hr.mono (by decide)
    refine ⟨_, pss_cons (ps_if (PW.pt (pw_or (pt_not (pt_val (pe_callB call_isi (by rfl) T.ti.isinstance (by decide +kernel) (pa_cons (pv 0) (pa_cons (pe_bltn (v := .ty "tuple") (by rfl) T.tuple (by decide +kernel) rfl) pa_nil)))))
          (pw_or1 (pt_cmpR op_ne (pe_callB call_len_seq (by rfl) T.len PySem.boot_len (pa_cons (pv 0) pa_nil)) pe_int (nomark _)))))
        (pss_one (ps_raiseEx rfl T.bad hr (takes_of rfl rfl rfl rfl) (by exact (pa_cons (pe_tup pa_nil) pa_nil)) rfl)) pss_nil)
      (pss_cons (ps_asg (pv 0) (pg_tup (by rfl) (pgs_cons (pg_name (i := 1) nd rfl (.inl rfl)) (pgs_cons (pg_name (i := 2) nd rfl (.inl rfl)) pgs_nil))))
      (pss_cons (ps_if (pt_not (pt_val (pe_call GB hr1 rfl T.bet.g T.bet.F.kp T.bet.b .nil pass0 (pa_cons (pv 1) (pa_cons pe_int (pa_cons (pe_glob (v := .int 3) rfl hh ⟨_, rfl⟩) pa_nil))))))
        (pss_one (ps_raiseEx rfl T.bad hr (takes_of rfl rfl rfl rfl) (by exact (pa_cons (pe_tup (pa_cons pe_int pa_nil)) pa_nil)) rfl)) pss_nil)
      (pss_cons (ps_if (PW.pt (pw_or (pt_not (pt_val (pe_callB call_isi (by rfl) T.ti.isinstance (by decide +kernel) (pa_cons (pv 2) (pa_cons (pe_bltn (v := .ty "tuple") (by rfl) T.tuple (by decide +kernel) rfl) pa_nil)))))
          (pw_or1 (pt_not (pt_val (pe_call GB hr1 rfl T.bet.g T.bet.F.kp T.bet.b .nil pass0 (pa_cons (pe_callB call_len_seq (by rfl) T.len PySem.boot_len (pa_cons (pv 2) pa_nil)) (pa_cons pe_int (pa_cons (pe_glob (v := .int 8) rfl ht ⟨_, rfl⟩) pa_nil)))))))))
        (pss_one (ps_raiseEx rfl T.bad hr (takes_of rfl rfl rfl rfl) (by exact (pa_cons (pe_tup (pa_cons pe_int pa_nil)) pa_nil)) rfl)) pss_nil)
      (pss_cons (ps_for (passes_of rfl) rfl (pi_enT (by rfl) T.enumerate (pa_cons (pv 2) pa_nil)) (pg_tup (by rfl) (pgs_cons (pg_name (i := 3) nd rfl (.inl rfl)) (pgs_cons (pg_name (i := 4) nd rfl (.inl rfl)) pgs_nil)))
        (pss_one (ps_if (pt_not (pt_val (pe_call GG hr2 rfl T.isg.g T.isg.F.kp T.isg.b .nil pass0 (pa_cons (pv 4) pa_nil))))
          (pss_one (ps_raiseEx rfl T.bad hr (takes_of rfl rfl rfl rfl) (by exact (pa_cons (pe_tup (pa_cons pe_int (pa_cons (pv 3) pa_nil))) pa_nil)) rfl)) pss_nil)))
      (pss_one (ps_ret (pv 0))))))), ?_⟩
    refine ⟨_, rfl, _, _, _, _, _, rfl, .ty _, hd.ty, kit_ty (kit_tuple d), _, rfl, ?_⟩
    have odd : (∀ ds, d ≠ .tuple ds) → ∀ p, H p = none → ∀ dd, upd H p (.tup []) dd = none → E (.ref C) (some dd) (upd (upd H p (.tup [])) dd (.xd [("place", .ref p)])) := by
      intro h p hp dd hdd
      obtain ⟨q1, q2⟩ := fin_raise (pl := []) (fs := [("place", .ref p)]) (Same.refl H) hp hdd
      exact ke [] _ dd _ (plc_kind h) q1 upd_same q2
    cases hd with
    | non => exact iteT (iteT ⟨Nat.zero_le _, fun p hp => ⟨_, rfl, fun dd hdd => odd (fun _ z => by cases z) p hp dd hdd⟩⟩)
    | bl b => exact iteT (iteT ⟨Nat.zero_le _, fun p hp => ⟨_, rfl, fun dd hdd => odd (fun _ z => by cases z) p hp dd hdd⟩⟩)
    | int i => exact iteT (iteT ⟨Nat.zero_le _, fun p hp => ⟨_, rfl, fun dd hdd => odd (fun _ z => by cases z) p hp dd hdd⟩⟩)
    | str x => exact iteT (iteT ⟨Nat.zero_le _, fun p hp => ⟨_, rfl, fun dd hdd => odd (fun _ z => by cases z) p hp dd hdd⟩⟩)
    | lst e r => exact iteT (iteT ⟨Nat.zero_le _, fun p hp => ⟨_, rfl, fun dd hdd => odd (fun _ z => by cases z) p hp dd hdd⟩⟩)
    | dic e r => exact iteT (iteT ⟨Nat.zero_le _, fun p hp => ⟨_, rfl, fun dd hdd => odd (fun _ z => by cases z) p hp dd hdd⟩⟩)
    | tup e r =>
      rename_i a xs ds
      refine iteF ?_
      refine ⟨_, rfl, a, _, rfl, .inr (SqT.of e), rfl, _, rfl, ?_⟩
      have hl := r.length
      by_cases h2 : ds.length = 2
      · obtain ⟨d0, d1, rfl⟩ : ∃ d0 d1, ds = [d0, d1] := by
          match ds, h2 with
          | [d0, d1], _ => exact ⟨d0, d1, rfl⟩
        cases r with
        | cons r0 r1 =>
          rename_i v0 vs0
          cases r1 with
          | cons r1 r2 =>
            rename_i v1 vs1
            cases r2
            refine iteNS rfl ?_
            -- hands, gaps = thing
            refine ⟨_, rfl, a, _, rfl, SqT.of e, rfl, ?_⟩
            refine ⟨v0, _, rfl, v1, _, rfl, rfl, ?_⟩
            -- if not is_between(hands, 1, MOST_HANDS)
            refine ⟨_, rfl, v0, d0, 1, 3, rfl, r0, _, rfl, ?_⟩
            have ez := plc_two d0 d1
            rcases hb : betw d0 1 3 with _ | _
            · rw [hb] at ez
              refine iteT ⟨(by show 1 ≤ sizeLine; decide), fun p hp => ⟨_, rfl, fun dd hdd => ?_⟩⟩
              obtain ⟨q1, q2⟩ := fin_raise (pl := [0]) (fs := [("place", .ref p)]) (Same.refl H) hp hdd
              exact ke [0] _ dd _ ez q1 upd_same q2
            rw [hb] at ez
            have ez' : plc (.tuple [d0, d1]) = plcG d1 := ez
            refine iteF ?_
            -- if not isinstance(gaps, tuple) or not is_between(len(gaps), 1, MOST_THINGS)
            have one : plcG d1 = some [1] → ∀ p, H p = none → ∀ dd, upd H p (.tup [.int 1]) dd = none → E (.ref C) (some dd) (upd (upd H p (.tup [.int 1])) dd (.xd [("place", .ref p)])) := by
              intro h p hp dd hdd
              obtain ⟨q1, q2⟩ := fin_raise (pl := [1]) (fs := [("place", .ref p)]) (Same.refl H) hp hdd
              exact ke [1] _ dd _ (ez'.trans h) q1 upd_same q2
            refine ⟨_, rfl, _, _, _, _, _, rfl, .ty _, r1.ty, kit_ty (kit_tuple d1), _, rfl, ?_⟩
            have two : (1 : Nat) ≤ sizeLine := by decide
            cases r1 with
            | non => exact iteT (iteT ⟨two, fun p hp => ⟨_, rfl, fun dd hdd => one rfl p hp dd hdd⟩⟩)
            | bl b => exact iteT (iteT ⟨two, fun p hp => ⟨_, rfl, fun dd hdd => one rfl p hp dd hdd⟩⟩)
            | int i => exact iteT (iteT ⟨two, fun p hp => ⟨_, rfl, fun dd hdd => one rfl p hp dd hdd⟩⟩)
            | str x => exact iteT (iteT ⟨two, fun p hp => ⟨_, rfl, fun dd hdd => one rfl p hp dd hdd⟩⟩)
            | lst e r => exact iteT (iteT ⟨two, fun p hp => ⟨_, rfl, fun dd hdd => one rfl p hp dd hdd⟩⟩)
            | dic e r => exact iteT (iteT ⟨two, fun p hp => ⟨_, rfl, fun dd hdd => one rfl p hp dd hdd⟩⟩)
            | tup eb rb =>
              rename_i b ys gs
              have hlb := rb.length
              refine iteF ?_
              refine ⟨_, rfl, b, _, rfl, .inr (SqT.of eb), .int (ys.length : Nat), .int (ys.length : Nat), 1, 8, rfl, .int _, _, rfl, ?_⟩
              have eg : plcG (.tuple gs) = if 1 ≤ gs.length ∧ gs.length ≤ 8 then badGap 0 gs else some [1] := rfl
              by_cases h8 : 1 ≤ gs.length ∧ gs.length ≤ 8
              · rw [if_pos h8] at eg
                have hbt : betw (.int (ys.length : Nat)) 1 8 = true := by
                  show (decide ((1 : Int) ≤ (ys.length : Nat)) && decide (((ys.length : Nat) : Int) ≤ 8)) = true
                  rw [decide_eq_true (by omega), decide_eq_true (by omega)]
                  rfl
                rw [hbt]
                refine iteF ?_
                -- the gaps
                refine ⟨_, rfl, b, _, rfl, SqT.of eb, for_it walk_enT (fun i σ H' => ∃ n g : Option V, σ = [some (.ref a), some v0, some (.ref b), n, g] ∧ Same H H' ∧ badGap 0 gs = badGap i (gs.drop i))
                  ⟨none, none, rfl, Same.refl H, rfl⟩ (fun i σ H' _ ⟨_, _, _, s1, _⟩ => SqT.of (s1 _ _ eb)) ?_ ?_⟩
                · rintro i x σ H1 H2 hi ⟨n, g, rfl, s1, eb1⟩ ⟨T0, x0, y0, rfl, hT, rfl, ex, ey⟩
                  cases ex
                  obtain ⟨dg, hdg, rg⟩ := rb.get ey
                  have s2 : Same H (upd H1 T0 (.tup [.int (i : Nat), y0])) := s1.trans (Same.new hT)
                  refine ⟨T0, _, rfl, SqT.of upd_same, rfl, _, _, rfl, _, _, rfl, rfl, ?_⟩
                  refine ⟨_, rfl, y0, dg, rfl, s2.da rg, _, rfl, ?_⟩
                  rw [badGap_step hdg] at eb1
                  rcases hbg : betw dg 1 bigGap with _ | _
                  · rw [hbg] at eb1
                    refine iteT ⟨_, rfl, (by show 2 ≤ sizeLine; decide), fun p hp => ⟨_, rfl, fun dd hdd => ?_⟩⟩
                    obtain ⟨q1, q2⟩ := fin_raise (pl := [1, (i : Int)]) (fs := [("place", .ref p)]) s2 hp hdd
                    exact ke [1, (i : Int)] _ dd _ (ez'.trans (eg.trans eb1)) q1 upd_same q2
                  · rw [hbg] at eb1
                    refine iteF ?_
                    exact ⟨_, _, rfl, s2, eb1⟩
                · rintro σ H1 ⟨n, g, rfl, s1, eb1⟩
                  refine ⟨_, rfl, kq _ (ez'.trans (eg.trans (eb1.trans ?_))) s1⟩
                  rw [hlb, List.drop_length]
                  rfl
              · rw [if_neg h8] at eg
                have hbt : betw (.int (ys.length : Nat)) 1 8 = false := by
                  show (decide ((1 : Int) ≤ (ys.length : Nat)) && decide (((ys.length : Nat) : Int) ≤ 8)) = false
                  by_cases g1 : (1 : Int) ≤ (ys.length : Nat)
                  · rw [decide_eq_true g1, decide_eq_false (by omega)]
                    rfl
                  · rw [decide_eq_false g1]
                    rfl
                rw [hbt]
                exact iteT ⟨two, fun p hp => ⟨_, rfl, fun dd hdd => one eg p hp dd hdd⟩⟩
      · have hne : ¬ (V.int ((xs.length : Nat) : Int)) = V.int 2 := fun z => by
          have z' := V.int.inj z
          omega
        rw [decide_eq_false hne]
        refine iteT ⟨Nat.zero_le _, fun p hp => ⟨_, rfl, fun dd hdd => ?_⟩⟩
        obtain ⟨q1, q2⟩ := fin_raise (pl := []) (fs := [("place", .ref p)]) (Same.refl H) hp hdd
        exact ke [] _ dd _ (plc_short h2) q1 upd_same q2
end
end K2
set_option Elab.async false
set_option linter.all false
set_option maxRecDepth 100000
set_option maxHeartbeats 4000000
namespace K2
open PySem L2 Gd PySem.ExG
/-- the heap but for m -/
def off (H : Hp) (m : Addr) : Hp := fun b => if b = m then none else H b
theorem off_ne {H : Hp} {m b : Addr} (h : b ≠ m) : off H m b = H b := if_neg h
theorem Grow.off {m : Addr} {H H' : Hp} (g : Grow m H H') : ∀ b o, off H m b = some o → off H' m b = some o := fun b o e => by
  by_cases h : b = m
  · unfold K2.off at e
    rw [if_pos h] at e
    cases e
  · rw [off_ne h] at e ⊢
    exact g b o h e
theorem off_sub {m : Addr} {H : Hp} : ∀ b o, off H m b = some o → H b = some o := fun b o e => by
  by_cases h : b = m
  · unfold K2.off at e
    rw [if_pos h] at e
    cases e
  · rw [off_ne h] at e
    exact e
/-- a thing apart from m, of some size -/
structure Thg (n k : Nat) (H : Hp) (m : Addr) (v : V) : Prop where
  ex : ∃ d, Da (off H m) v d ∧ Sm n k d
theorem Thg.grow {n k : Nat} {H H' : Hp} {m : Addr} {v : V} (t : Thg n k H m v) (g : Grow m H H') : Thg n k H' m v := by
  obtain ⟨d, h1, h2⟩ := t.ex
  exact ⟨d, h1.mono g.off, h2⟩
theorem Thg.up {n k n' k' : Nat} {H : Hp} {m : Addr} {v : V} (t : Thg n k H m v) (h1 : n ≤ n') (h2 : k ≤ k') : Thg n' k' H m v := by
  obtain ⟨d, q1, q2⟩ := t.ex
  exact ⟨d, q1, q2.up h1 h2⟩
/-- a list of things -/
structure ThL (n k : Nat) (H : Hp) (m : Addr) (vs : List V) : Prop where
  all : ∀ v ∈ vs, Thg n k H m v
theorem ThL.grow {n k : Nat} {H H' : Hp} {m : Addr} {vs : List V} (t : ThL n k H m vs) (g : Grow m H H') : ThL n k H' m vs := ⟨fun v hv => (t.all v hv).grow g⟩
theorem ThL.up {n k n' k' : Nat} {H : Hp} {m : Addr} {v : List V} (t : ThL n k H m v) (h1 : n ≤ n') (h2 : k ≤ k') : ThL n' k' H m v := ⟨fun x hx => (t.all x hx).up h1 h2⟩
theorem ThL.append {n k : Nat} {H : Hp} {m : Addr} {xs ys : List V} (a : ThL n k H m xs) (b : ThL n k H m ys) : ThL n k H m (xs ++ ys) := ⟨fun v hv => (List.mem_append.mp hv).elim (a.all v) (b.all v)⟩
theorem ThL.sub {n k : Nat} {H : Hp} {m : Addr} {xs ys : List V} (a : ThL n k H m xs) (h : ∀ v ∈ ys, v ∈ xs) : ThL n k H m ys := ⟨fun v hv => a.all v (h v hv)⟩
theorem ThL.nil {n k : Nat} {H : Hp} {m : Addr} : ThL n k H m [] := ⟨fun v hv => by cases hv⟩
theorem ThL.cons {n k : Nat} {H : Hp} {m : Addr} {v : V} {vs : List V} (a : Thg n k H m v) (b : ThL n k H m vs) : ThL n k H m (v :: vs) := ⟨fun x hx => (List.mem_cons.mp hx).elim (fun e => e ▸ a) (b.all x)⟩
theorem ThL.da {n k : Nat} {H : Hp} {m : Addr} : ∀ {vs : List V}, ThL n k H m vs → ∃ ds, DaL (off H m) vs ds ∧ SmL n k ds ∧ ds.length = vs.length
  | [], _ => ⟨[], .nil, ⟨fun d hd => by cases hd⟩, rfl⟩
  | v :: vs, h => by
    obtain ⟨d, h1, h2⟩ := (h.all v List.mem_cons_self).ex
    obtain ⟨ds, q1, q2, q3⟩ := ThL.da (vs := vs) ⟨fun x hx => h.all x (List.mem_cons_of_mem _ hx)⟩
    exact ⟨d :: ds, .cons h1 q1, ⟨fun x hx => (List.mem_cons.mp hx).elim (fun e => e ▸ h2) (q2.all x)⟩, congrArg (· + 1) q3⟩
theorem th_none {H : Hp} {m : Addr} : Thg 4 0 H m .non := ⟨_, .non, sm_none⟩
theorem th_bool {H : Hp} {m : Addr} (b : Bool) : Thg 5 0 H m (.bl b) := ⟨_, .bl b, sm_bool b⟩
theorem th_int {H : Hp} {m : Addr} {i : Int} (h : i.natAbs < 2 ^ 1920) : Thg 1921 0 H m (.int i) := ⟨_, .int i, sm_int h⟩
theorem th_str {H : Hp} {m : Addr} {x : Str} {n : Nat} (h : (reprText x).length ≤ n) : Thg n 0 H m (.str x) := ⟨_, .str x, sm_str h⟩
theorem th_tup {n k : Nat} {H : Hp} {m p : Addr} {vs : List V} (hp : p ≠ m) (h : H p = some (.tup vs)) (t : ThL n k H m vs) : Thg (vs.length * (n + 2) + 3) (k + 1) H m (.ref p) := by
  obtain ⟨ds, q1, q2, q3⟩ := t.da
  have z := sm_tup q2
  rw [q3] at z
  exact ⟨_, .tup (by rw [off_ne hp]; exact h) q1, z⟩
theorem th_lst {n k : Nat} {H : Hp} {m p : Addr} {vs : List V} (hp : p ≠ m) (h : H p = some (.lst vs)) (t : ThL n k H m vs) : Thg (vs.length * (n + 2) + 3) (k + 1) H m (.ref p) := by
  obtain ⟨ds, q1, q2, q3⟩ := t.da
  have z := sm_lst q2
  rw [q3] at z
  exact ⟨_, .lst (by rw [off_ne hp]; exact h) q1, z⟩
theorem th_dic {n k : Nat} {H : Hp} {m p : Addr} {kvs : List (Key × V)} (hp : p ≠ m) (h : H p = some (.dK kvs)) (t : ThL n k H m (kvs.map (·.2))) (hk : ∀ p ∈ kvs, Sm n k (keyD p.1)) : Thg (kvs.length * (2 * n + 4) + 2) (k + 1) H m (.ref p) := by
  obtain ⟨ds, q1, q2, q3⟩ := t.da
  have z : SmK n k ((kvs.map fun p => keyD p.1).zip ds) := ⟨fun d hd => by
    obtain ⟨h1, h2⟩ := List.of_mem_zip (a := d.1) (b := d.2) hd
    refine ⟨?_, q2.all _ h2⟩
    obtain ⟨q, hq, e⟩ := List.mem_map.mp h1
    rw [← e]
    exact hk q hq⟩
  have z2 := sm_dic z
  have zl : ((kvs.map fun p => keyD p.1).zip ds).length = kvs.length := by
    rw [List.length_zip, List.length_map, q3, List.length_map]
    exact Nat.min_self _
  rw [zl] at z2
  exact ⟨_, .dic (by rw [off_ne hp]; exact h) q1, z2⟩

structure TxD (K : PySem.W.Frag) (mg : Str → Option Value) (fD : Addr) (fdD : FuncData) : Prop where
  tx : Txt K mg
  draw : At K mg "_law_draw" sDraw ["m", "many"] fD fdD
/-- _law_of(m, some) -/
def spOf : Sp := fun vs H Q _ => ∃ (m c a : Addr) (xs : List V) (n : Nat), vs = [.ref m, .ref a] ∧ MOk H m c n ∧ n ≤ 90000 ∧ a ≠ m ∧ H a = some (.lst xs) ∧ 0 < xs.length ∧ xs.length ≤ 1000 ∧
  ∀ (v : V) (H' : Hp), v ∈ xs → MOk H' m c (n + 1) → Grow m H H' → Q v H'
section
variable {P : Program} {w : World} {K : PySem.W.Frag} {mg : Str → Option Value} {base : Heap} {fD : Addr} {fdD : FuncData}
theorem scOf : FnScope ["m", "some"] ["m", "some"] (defScope sOf) := ⟨rfl, rfl, rfl, by decide +kernel, rfl, by decide +kernel, by decide +kernel⟩
theorem ok_of {f : Addr} {fd : FuncData} (F : Fun K "_law_of" "_law_of" sOf f fd) (T : TxD K mg fD fdD) : FnOk P w K mg base CX0 2 f fd ["m", "some"] spOf := by
  have GD : FnOk P w K mg base CX0 1 fD fdD ["m", "many"] spDraw := ok_draw T.draw.F T.tx
  refine F.ok scOf (fun vs H Q E h => ?_) (fun cdv A outer s H vs Q E hr h => ?_)
  · obtain ⟨m, c, a, xs, n, rfl, _⟩ := h
    rfl
  · obtain ⟨m, c, a, xs, n, rfl, M, hn, ham, ha, h0, h1, k⟩ := h
    refine ⟨_, pss_one (ps_ret (pe_ix ix_list (pv 1) (pe_call GD hr rfl T.draw.g T.draw.F.kp T.draw.b .nil pass0 (pa_cons (pv 0) (pa_cons (pe_callB call_len_seq (by rfl) T.tx.len PySem.boot_len (pa_cons (pv 1) pa_nil)) pa_nil))) (fun _ _ => rfl))), ?_⟩
    have z2 : ((xs.length : Nat) : Int).natAbs < 2 ^ 8000 := Nat.lt_of_le_of_lt (show _ ≤ 1000 by omega) (Nat.lt_of_lt_of_le (show 1000 < 2 ^ 10 by decide) (Nat.pow_le_pow_right (by decide) (by decide)))
    refine ⟨_, rfl, _, rfl, _, rfl, a, _, rfl,   .inl (SqL.of ha), m, c, (xs.length : Nat), n, rfl, M, by omega, by omega, z2, fun r H' r0 r1 M' g => ?_⟩
    obtain ⟨v, hv⟩ : ∃ v, xs[r.toNat]? = some v := ⟨_, List.getElem?_eq_getElem (by omega)⟩
    refine ⟨a, xs, r, v, rfl, rfl, SqL.of (g a _ ham ha), ?_, k v H' (List.mem_of_getElem? hv) M' g⟩
    have e : r = ((r.toNat : Nat) : Int) := by omega
    rw [e]
    exact atI_nat hv
end
end K2
set_option Elab.async false
set_option linter.all false
set_option maxRecDepth 100000
set_option maxHeartbeats 4000000
namespace K2
open PySem L2 Gd PySem.ExG
set_option exponentiation.threshold 10000
theorem MOk.apart {H : Hp} {m c p : Addr} {n : Nat} (M : MOk H m c n) (h : H p = none) : p ≠ m := by
  obtain ⟨l, sd, sp, cs, h1, _⟩ := M.ex
  exact (ne_of_none h1 h).symm
theorem MOk.apartC {H : Hp} {m c p : Addr} {n : Nat} (M : MOk H m c n) (h : H p = none) : p ≠ c := by
  obtain ⟨l, sd, sp, cs, _, h2, _⟩ := M.ex
  exact (ne_of_none h2 h).symm
theorem nat_i {i : Int} (h : i.natAbs < 2 ^ 300) : i.natAbs < 2 ^ 1920 := Nat.lt_trans h (Nat.pow_lt_pow_right (by decide) (by decide))
theorem sm_int3 {i : Int} (h : i.natAbs < 2 ^ 300) : Sm 310 0 (.int i) :=
  have h' := log_lt (by decide) h
  ⟨by show decide (i.natAbs.log2 < 1920) = true; exact decide_eq_true (Nat.lt_trans h' (by decide)), Nat.le_refl _, by
    show (PySem.Str.ofString (toString i)).length ≤ 310
    rw [PySem.ofString_length]
    exact Nat.le_trans (PySem.int_text_length_le (k := 300) (by decide) h') (by decide)⟩
theorem th_int3 {H : Hp} {m : Addr} {i : Int} (h : i.natAbs < 2 ^ 300) : Thg 310 0 H m (.int i) := ⟨_, .int i, sm_int3 h⟩
theorem ti {H : Hp} {m : Addr} (i : Int) (h : i.natAbs < 2 ^ 300 := by decide) : Thg 640 3 H m (.int i) := (th_int3 h).up (by decide) (by decide)
end K2
set_option Elab.async false
set_option linter.all false
set_option maxRecDepth 100000
set_option maxHeartbeats 4000000
namespace Gd
open PySem L2
/-- the same, or one new object more -/
def Ext (H H' : Hp) : Prop := H' = H ∨ ∃ p o, H p = none ∧ H' = upd H p o
/-- t + u, wherever the sum stands -/
def rCatM : R2 := fun x y H Q => ∃ a b xs ys, x = .ref a ∧ y = .ref b ∧ H a = some (.tup xs) ∧ H b = some (.tup ys) ∧ xs.length + ys.length ≤ sizeLine ∧
  ∀ p H', Ext H H' → H' p = some (.tup (xs ++ ys)) → Q (.ref p) H'
def rSlM : V → Option Int → Option Int → Hp → VK → Prop := fun x lo hi H Q => ∃ a xs, x = .ref a ∧ H a = some (.tup xs) ∧
  ∀ p H', Ext H H' → H' p = some (.tup (cutV xs lo hi)) → Q (.ref p) H'
theorem cut_whole {xs : List V} {lo hi : Option Int} (h1 : HT.sIx xs.length 0 lo = 0) (h2 : HT.sIx xs.length xs.length hi = xs.length) : cutV xs lo hi = xs := by
  unfold cutV
  rw [h1, h2]
  simp
theorem cut_mem {xs : List V} {lo hi : Option Int} {v : V} (h : v ∈ cutV xs lo hi) : v ∈ xs := List.mem_of_mem_drop (List.mem_of_mem_take h)
section
variable {X : Cx}
theorem op_catM : OpR X (binaryOp .Add) rCatM := by
  intro pins s σ H x y v u Q I rx ry h
  obtain ⟨a, b, xs, ys, ex, ey, ha, hb, hz, k⟩ := h
  refine op_catA pins s σ H x y v u Q I rx ry ⟨a, b, xs, ys, ex, ey, SqT.of ha, SqT.of hb, hz, fun e => ?_, fun _ e => ?_, fun _ _ p hp => ?_⟩
  · subst e
    exact k b H (.inl rfl) hb
  · subst e
    refine k a H (.inl rfl) ?_
    rw [List.append_nil]
    exact ha
  · exact k p _ (.inr ⟨p, _, hp, rfl⟩) upd_same
theorem sl_tupM : SlR X rSlM := by
  intro pins s σ H x v vl vu lo hi sl Q I rx hs pl pu h
  obtain ⟨a, xs, ex, ha, k⟩ := h
  refine sl_tupA pins s σ H x v vl vu lo hi sl Q I rx hs pl pu ⟨a, xs, ex, SqT.of ha, fun hw => ?_, fun _ p hp => ?_⟩
  · refine k a H (.inl rfl) ?_
    rw [cut_whole hw.1 hw.2]
    exact ha
  · exact k p _ (.inr ⟨p, _, hp, rfl⟩) upd_same
/-- t != () -/
def rNe0 : R2 := fun x y H Q => ∃ a b xs, x = .ref a ∧ y = .ref b ∧ H a = some (.tup xs) ∧ H b = some (.tup []) ∧ Q (.bl (!xs.isEmpty)) H
theorem op_ne0 (hu : X.A.units < cLine) : OpR X (compareOp .NotEq) rNe0 := by
  intro pins s σ H x y v u Q I rx ry h
  obtain ⟨a, b, xs, rfl, rfl, ha, hb, q⟩ := h
  cases rx
  cases ry
  obtain ⟨its, r1, ⟨o1, h1, c1, n1, d1⟩, _⟩ := I.tuple (SqT.of ha)
  obtain ⟨its2, r2, ⟨o2, h2, c2, n2, d2⟩, _⟩ := I.tuple (SqT.of hb)
  cases r2
  have z := SeqAt.RcNeAt.tuples (A := X.A) (s := s) (e := fun _ => true) ⟨o1, h1, c1, n1, d1⟩ ⟨o2, h2, c2, n2, d2⟩ hu (fun j _ hj => by simp at hj)
  refine z X.prog X.w X.xe _ ?_
  have e : (!((List.range (min its.toArray.size ([] : List Value).toArray.size)).all (fun _ => true) && its.toArray.size == ([] : List Value).toArray.size)) = !xs.isEmpty := by
    cases r1 with
    | nil => rfl
    | cons _ _ => simp
  rw [e]
  exact ⟨.bl _, H, I, rfl, q⟩
end
end Gd
namespace K2
open PySem L2 Gd PySem.ExG
set_option exponentiation.threshold 10000
theorem _root_.Gd.Ext.grow {H H' : Hp} (e : Ext H H') (m : Addr) : Grow m H H' := by
  rcases e with rfl | ⟨p, o, h, rfl⟩
  · exact Grow.refl _ _
  · exact Grow.new h
theorem _root_.Gd.Ext.mok {H H' : Hp} (e : Ext H H') {m c : Addr} {n : Nat} (M : MOk H m c n) : MOk H' m c n := by
  rcases e with rfl | ⟨p, o, h, rfl⟩
  · exact M
  · exact M.new h
theorem MOk.neT {H : Hp} {m c p : Addr} {n : Nat} {xs : List V} (M : MOk H m c n) (h : H p = some (.tup xs)) : p ≠ m := by
  obtain ⟨l, sd, sp, cs, h1, _⟩ := M.ex
  exact ne_of h h1 (by intro z; cases z)
theorem MOk.neL {H : Hp} {m c p : Addr} {n : Nat} {xs : List V} (M : MOk H m c n) (h : H p = some (.lst xs)) : p ≠ m := by
  obtain ⟨l, sd, sp, cs, h1, _⟩ := M.ex
  exact ne_of h h1 (by intro z; cases z)
end K2
set_option Elab.async false
set_option linter.all false
set_option maxRecDepth 100000
set_option maxHeartbeats 4000000
namespace Gd
open PySem L2
theorem Ext.same {H H' : Hp} (e : Ext H H') : Same H H' := by
  rcases e with rfl | ⟨p, o, h, rfl⟩
  · exact Same.refl _
  · exact fun b u z => by rw [upd_ne (ne_of_none z h)]; exact z
theorem six_some (l d : Nat) {n : Int} (h0 : 0 ≤ n) (h1 : n ≤ l) : HT.sIx l d (some n) = n.toNat := by
  show (if n < 0 then (n + (l : Int)).toNat else min n.toNat l) = n.toNat
  rw [if_neg (by omega)]
  omega
theorem cut_take (xs : List V) {n : Int} (h0 : 0 ≤ n) (h1 : n ≤ xs.length) : cutV xs none (some n) = xs.take n.toNat := by
  unfold cutV
  rw [six_some _ _ h0 h1, show HT.sIx xs.length 0 none = 0 from rfl, Nat.sub_zero, List.drop_zero]
theorem cut_drop (xs : List V) {n : Int} (h0 : 0 ≤ n) (h1 : n ≤ xs.length) : cutV xs (some n) none = xs.drop n.toNat := by
  unfold cutV
  rw [six_some _ _ h0 h1, show HT.sIx xs.length xs.length none = xs.length from rfl, List.take_of_length_le (by simp)]
end Gd
namespace K2
open PySem L2 Gd PySem.ExG
/-! ### plans that are right -/
def planD (hi : Int) (gs : List Int) : PyData := .tuple [.int hi, .tuple (gs.map .int)]
/-- what comes out of a call: a thing, BadNumber with a value, BadPlan with a place -/
inductive Rz where
  | ok (d : PyData)
  | num (d : PyData)
  | pla (p : List Int)
def Rz.said : Rz → PyData
  | .ok d => .list [d]
  | .num d => .tuple [.str "number", d]
  | .pla p => .tuple [.str "plan", plD p]
def Out (CP CN : Addr) (z : Rz) (H : Hp) (Q : VK) (E : XK) : Prop := match z with
  | .ok d => ∀ r H', Same H H' → Da H' r d → Q r H'
  | .num d => ∀ v dd H', Same H H' → H' dd = some (.xd [("value", v)]) → Da H' v d → E (.ref CN) (some dd) H'
  | .pla p => ∀ v dd H', Same H H' → H' dd = some (.xd [("place", v)]) → Da H' v (plD p) → E (.ref CP) (some dd) H'
theorem betw_int {d : PyData} {lo hi : Int} (h : betw d lo hi = true) : ∃ i, d = .int i ∧ lo ≤ i ∧ i ≤ hi := by
  cases d with
  | int i =>
    refine ⟨i, rfl, ?_⟩
    simpa [betw] using h
  | _ => exact Bool.noConfusion h
theorem Da.int_inv {H : Hp} {v : V} {i : Int} (h : Da H v (.int i)) : v = .int i := by cases h; rfl
theorem badGap_none : ∀ {gs : List PyData} {i : Nat}, badGap i gs = none → ∃ ns : List Int, gs = ns.map .int ∧ ∀ g ∈ ns, 1 ≤ g ∧ g ≤ bigGap
  | [], _, _ => ⟨[], rfl, fun g h => by cases h⟩
  | d :: ds, i, h => by
    unfold badGap at h
    by_cases hb : betw d 1 bigGap = true
    · rw [if_pos hb] at h
      obtain ⟨ns, rfl, hn⟩ := badGap_none h
      obtain ⟨j, rfl, j1, j2⟩ := betw_int hb
      refine ⟨j :: ns, rfl, fun g hg => ?_⟩
      rcases List.mem_cons.mp hg with rfl | hg
      · exact ⟨j1, j2⟩
      · exact hn g hg
    · rw [if_neg hb] at h
      cases h
/-- a plan that is right, of so many hands and these gaps -/
structure Good (hi : Int) (gs : List Int) : Prop where
  h1 : 1 ≤ hi
  h3 : hi ≤ 3
  l1 : 1 ≤ gs.length
  l8 : gs.length ≤ 8
  all : ∀ g ∈ gs, 1 ≤ g ∧ g ≤ bigGap
theorem plc_right {d : PyData} (h : plc d = none) : ∃ hi gs, d = planD hi gs ∧ Good hi gs := by
  match d, h with
  | .tuple [a, g], h =>
    rw [plc_two] at h
    by_cases hb : betw a 1 3 = true
    · rw [if_pos hb] at h
      obtain ⟨j, rfl, j1, j2⟩ := betw_int hb
      match g, h with
      | .tuple gs, h =>
        have h' : (if 1 ≤ gs.length ∧ gs.length ≤ 8 then badGap 0 gs else some [1]) = none := h
        by_cases hl : 1 ≤ gs.length ∧ gs.length ≤ 8
        · rw [if_pos hl] at h'
          obtain ⟨ns, rfl, hn⟩ := badGap_none h'
          rw [List.length_map] at hl
          exact ⟨j, ns, rfl, j1, j2, hl.1, hl.2, hn⟩
        · rw [if_neg hl] at h'
          cases h'
      | .none, h => cases h
      | .bool _, h => cases h
      | .int _, h => cases h
      | .str _, h => cases h
      | .list _, h => cases h
      | .dict _, h => cases h
    · rw [if_neg hb] at h
      cases h
  | .tuple [], h => cases h
  | .tuple [_], h => cases h
  | .tuple (_ :: _ :: _ :: _), h => cases h
  | .none, h => cases h
  | .bool _, h => cases h
  | .int _, h => cases h
  | .str _, h => cases h
  | .list _, h => cases h
  | .dict _, h => cases h
theorem badGap_ok : ∀ {ns : List Int} {i : Nat}, (∀ g ∈ ns, 1 ≤ g ∧ g ≤ bigGap) → badGap i (ns.map .int) = none
  | [], _, _ => rfl
  | g :: r, i, h => by
    have h1 := h g List.mem_cons_self
    show (if betw (.int g) 1 bigGap = true then badGap (i + 1) (r.map .int) else some [1, (i : Int)]) = none
    have e : betw (.int g) 1 bigGap = true := by
      show (decide (1 ≤ g) && decide (g ≤ bigGap)) = true
      rw [decide_eq_true h1.1, decide_eq_true h1.2]
      rfl
    rw [if_pos e]
    exact badGap_ok fun x hx => h x (List.mem_cons_of_mem _ hx)
theorem Good.plc {hi : Int} {gs : List Int} (G : Good hi gs) : plc (planD hi gs) = none := by
  unfold planD
  rw [plc_two]
  have e : betw (.int hi) 1 3 = true := by
    show (decide (1 ≤ hi) && decide (hi ≤ 3)) = true
    rw [decide_eq_true G.h1, decide_eq_true G.h3]
    rfl
  rw [if_pos e]
  show (if 1 ≤ (gs.map PyData.int).length ∧ (gs.map PyData.int).length ≤ 8 then badGap 0 (gs.map .int) else some [1]) = none
  rw [List.length_map, if_pos ⟨G.l1, G.l8⟩]
  exact badGap_ok G.all
theorem DaL.ints {H : Hp} : ∀ {vs : List V} {ns : List Int}, DaL H vs (ns.map .int) → vs = ns.map V.int
  | [], [], _ => rfl
  | [], _ :: _, h => by cases h
  | _ :: _, [], h => by cases h
  | v :: vs, n :: ns, h => by
    cases h with
    | cons a b => rw [Da.int_inv a, DaL.ints b]; rfl
/-- how a right plan stands -/
theorem _root_.Gd.Da.plan {H : Hp} {v : V} {hi : Int} {gs : List Int} (h : Da H v (planD hi gs)) : ∃ a b, v = .ref a ∧ H a = some (.tup [.int hi, .ref b]) ∧ H b = some (.tup (gs.map V.int)) := by
  unfold planD at h
  cases h with
  | tup e r =>
    cases r with
    | cons r0 r1 =>
      cases r1 with
      | cons r1 r2 =>
        cases r2
        cases r1 with
        | tup e1 q =>
          rw [Da.int_inv r0] at e
          rw [DaL.ints q] at e1
          exact ⟨_, _, rfl, e, e1⟩
theorem plan_da {H : Hp} {a b : Addr} {hi : Int} {gs : List Int} (h1 : H a = some (.tup [.int hi, .ref b])) (h2 : H b = some (.tup (gs.map V.int))) : Da H (.ref a) (planD hi gs) :=
  .tup h1 (.cons (.int _) (.cons (.tup h2 (da_ints gs)) .nil))
end K2
set_option Elab.async false
set_option linter.all false
set_option maxRecDepth 100000
set_option maxHeartbeats 4000000
namespace K2
open PySem L2 Gd PySem.ExG
set_option exponentiation.threshold 10000
/-! ### shares -/
def low (p : Int × Int) : Int × Int := (p.1 / (Int.gcd p.1 p.2 : Nat), p.2 / (Int.gcd p.1 p.2 : Nat))
def shF (p : Int × Int) (g : Int) : Int × Int := (p.1 * g + p.2, p.2 * g)
def shOf (gs : List Int) : Int × Int := gs.foldl shF (0, 1)
def lawSum (gs : List Int) : Int × Int := gs.foldl (fun p g => low (shF p g)) (0, 1)
def prodOf (gs : List Int) : Int := gs.foldl (· * ·) 1
theorem low_mul {k : Int} (hk : 0 < k) (p : Int × Int) : low (k * p.1, k * p.2) = low p := by
  unfold low
  show ((k * p.1) / ((Int.gcd (k * p.1) (k * p.2) : Nat) : Int), (k * p.2) / ((Int.gcd (k * p.1) (k * p.2) : Nat) : Int)) = _
  rw [Int.gcd_mul_left, Int.natCast_mul, Int.natAbs_of_nonneg (Int.le_of_lt hk), Int.mul_ediv_mul_of_pos _ _ hk, Int.mul_ediv_mul_of_pos _ _ hk]
theorem low_step (p : Int × Int) (g : Int) (h : 0 < p.2) : low (shF (low p) g) = low (shF p g) := by
  have hd : 0 < ((Int.gcd p.1 p.2 : Nat) : Int) := by
    have := Int.gcd_pos_of_ne_zero_right p.1 (b := p.2) (by omega)
    omega
  have e1 : ((Int.gcd p.1 p.2 : Nat) : Int) * (p.1 / (Int.gcd p.1 p.2 : Nat)) = p.1 := Int.mul_ediv_cancel' (Int.gcd_dvd_left ..)
  have e2 : ((Int.gcd p.1 p.2 : Nat) : Int) * (p.2 / (Int.gcd p.1 p.2 : Nat)) = p.2 := Int.mul_ediv_cancel' (Int.gcd_dvd_right ..)
  have q := low_mul hd (shF (low p) g)
  rw [← q]
  congr 1
  unfold shF low
  simp only [Prod.mk.injEq]
  constructor
  · rw [Int.mul_add, ← Int.mul_assoc, e1, e2]
  · rw [← Int.mul_assoc, e2]
theorem shF_pos {p : Int × Int} {g : Int} (h : 0 < p.2) (hg : 1 ≤ g) : 0 < (shF p g).2 := Int.mul_pos h (by omega)
theorem sum_low : ∀ (gs : List Int) (p : Int × Int), 0 < p.2 → (∀ g ∈ gs, 1 ≤ g) → gs.foldl (fun p g => low (shF p g)) (low p) = low (gs.foldl shF p)
  | [], _, _, _ => rfl
  | g :: r, p, hp, h => by
    have hg := h g List.mem_cons_self
    show r.foldl (fun p g => low (shF p g)) (low (shF (low p) g)) = low (r.foldl shF (shF p g))
    rw [low_step p g hp]
    exact sum_low r _ (shF_pos hp hg) fun x hx => h x (List.mem_cons_of_mem _ hx)
theorem lawSum_eq {gs : List Int} (h : ∀ g ∈ gs, 1 ≤ g) : lawSum gs = low (shOf gs) := by
  have e : low (0, 1) = (0, 1) := by decide
  have q := sum_low gs (0, 1) (by decide) h
  rw [e] at q
  exact q
/-- how great the sums become -/
structure ShB (i : Nat) (p : Int × Int) : Prop where
  a0 : 0 ≤ p.1
  b0 : 0 < p.2
  a1 : p.1 < 2 ^ (101 * i + 1)
  b1 : p.2 < 2 ^ (100 * i + 1)
theorem big_lt : bigGap < 2 ^ 100 := by decide
theorem ShB.zero : ShB 0 (0, 1) := ⟨by decide, by decide, by decide, by decide⟩
theorem pow_cast (k : Nat) : (2 : Int) ^ k = ((2 ^ k : Nat) : Int) := by rw [Int.natCast_pow]; rfl
theorem ShB.step {i : Nat} {p : Int × Int} {g : Int} (h : ShB i p) (h1 : 1 ≤ g) (h2 : g ≤ bigGap) : ShB (i + 1) (shF p g) := by
  obtain ⟨a0, b0, a1, b1⟩ := h
  have hg : g < 2 ^ 100 := Int.lt_of_le_of_lt h2 big_lt
  have g0 : 0 < g := by omega
  have q1 : p.1 * g ≤ p.1 * 2 ^ 100 := Int.mul_le_mul_of_nonneg_left (Int.le_of_lt hg) a0
  have q2 : p.2 * g ≤ p.2 * 2 ^ 100 := Int.mul_le_mul_of_nonneg_left (Int.le_of_lt hg) (Int.le_of_lt b0)
  have q3 : p.2 * g < 2 ^ (100 * i + 1) * 2 ^ 100 := Int.lt_of_le_of_lt q2 (Int.mul_lt_mul_of_pos_right b1 (by decide))
  have q4 : p.1 * 2 ^ 100 < 2 ^ (101 * i + 1) * 2 ^ 100 := Int.mul_lt_mul_of_pos_right a1 (by decide)
  have e1 : (2 : Int) ^ (100 * i + 1) * 2 ^ 100 = 2 ^ (100 * (i + 1) + 1) := by rw [← Int.pow_add, show 100 * i + 1 + 100 = 100 * (i + 1) + 1 by omega]
  have e2 : (2 : Int) ^ (101 * i + 1) * 2 ^ 100 = 2 ^ (101 * i + 101) := by rw [← Int.pow_add]
  have e3 : (2 : Int) ^ (101 * (i + 1) + 1) = 2 ^ (101 * i + 101) + 2 ^ (101 * i + 101) := by
    rw [show 101 * (i + 1) + 1 = (101 * i + 101) + 1 by omega, Int.pow_succ]
    omega
  have e4 : (2 : Int) ^ (100 * i + 1) ≤ 2 ^ (101 * i + 101) := by
    rw [pow_cast, pow_cast]
    exact Int.ofNat_le.mpr (Nat.pow_le_pow_right (by decide) (by omega))
  refine ⟨?_, Int.mul_pos b0 g0, ?_, ?_⟩
  · have := Int.mul_nonneg a0 (Int.le_of_lt g0)
    show 0 ≤ p.1 * g + p.2
    omega
  · show p.1 * g + p.2 < _
    omega
  · show p.2 * g < _
    omega
theorem abs_lt {a : Int} {k : Nat} (h0 : 0 ≤ a) (h : a < 2 ^ k) : a.natAbs < 2 ^ k := by
  rw [pow_cast] at h
  omega
theorem ShB.up {i : Nat} {p : Int × Int} (h : ShB i p) (hi : i ≤ 8) : p.1.natAbs < 2 ^ 900 ∧ p.2.natAbs < 2 ^ 900 :=
  ⟨Nat.lt_of_lt_of_le (abs_lt h.a0 h.a1) (Nat.pow_le_pow_right (by decide) (by omega)), Nat.lt_of_lt_of_le (abs_lt (Int.le_of_lt h.b0) h.b1) (Nat.pow_le_pow_right (by decide) (by omega))⟩
theorem fold_take {α β : Type} (f : β → α → β) (b : β) (xs : List α) {i : Nat} {x : α} (h : xs[i]? = some x) : (xs.take (i + 1)).foldl f b = f ((xs.take i).foldl f b) x := by
  rw [List.take_succ, h]
  simp
end K2
set_option Elab.async false
set_option linter.all false
set_option maxRecDepth 100000
set_option maxHeartbeats 4000000
namespace K2
open PySem L2 Gd PySem.ExG
set_option exponentiation.threshold 10000
structure TxP (pr : Program) (K : PySem.W.Frag) (mg : Str → Option Value) (C fI CN fJ fB fG fN fM : Addr) (fdB fdG fdN fdM : FuncData) : Prop where
  tn : TxN pr K mg C fI fB fG fdB fdG
  bn : ExTxt pr K mg "BadNumber" "value" "this is no number that can stand here" CN fJ
  need : At K mg "need_plan" sNeed ["thing"] fN fdN
  num : At K mg "need_number" sNum ["gaps", "number"] fM fdM
  gcd : mg "gcd" = some (.builtin "math.gcd")
/-- need_number(gaps, number) -/
def spNum (CN : Addr) : Sp := fun vs H Q E => ∃ (b : Addr) (xs : List V) (v : V) (d : PyData), vs = [.ref b, v] ∧ H b = some (.tup xs) ∧ xs.length ≤ 1000 ∧ Da H v d ∧
  (betw d 0 ((xs.length : Int) - 1) = true → Q v H) ∧ (betw d 0 ((xs.length : Int) - 1) = false → ∀ dd, H dd = none → E (.ref CN) (some dd) (upd H dd (.xd [("value", v)])))
/-- share_of(plan), how_many(plan), the plan being right -/
def spShare : Sp := fun vs H Q _ => ∃ (v : V) (hi : Int) (gs : List Int), vs = [v] ∧ Da H v (planD hi gs) ∧ Good hi gs ∧
  ∀ r H', Same H H' → Da H' r (.tuple [.int (low (shOf gs)).1, .int (low (shOf gs)).2]) → Q r H'
def spMany : Sp := fun vs H Q _ => ∃ (v : V) (hi : Int) (gs : List Int), vs = [v] ∧ Da H v (planD hi gs) ∧ Good hi gs ∧ ∀ H', Same H H' → Q (.int (prodOf gs)) H'
section
variable {P : Program} {w : World} {K : PySem.W.Frag} {mg : Str → Option Value} {base : Heap} {C fI CN fJ fB fG fN fM : Addr} {fdB fdG fdN fdM : FuncData}
theorem scNum : FnScope ["gaps", "number"] ["gaps", "number"] (defScope sNum) := ⟨rfl, rfl, rfl, by decide +kernel, rfl, by decide +kernel, by decide +kernel⟩
theorem ok_num {f : Addr} {fd : FuncData} (F : Fun K "need_number" "need_number" sNum f fd) (T : TxP P K mg C fI CN fJ fB fG fN fM fdB fdG fdN fdM) : FnOk P w K mg base (L2.CX P w) 4 f fd ["gaps", "number"] (spNum CN) := by
  have GB : FnOk P w K mg base CX0 2 fB fdB ["value", "low", "high"] spBet := ok_bet T.tn.bet.F T.tn.ti T.tn.wh
  refine F.okX scNum (fun vs H Q E h => ?_) (fun cdv A outer s H vs Q E hr h => ?_)
  · obtain ⟨b, xs, v, d, rfl, _⟩ := h
    rfl
  · obtain ⟨b, xs, v, d, rfl, hb, hl, hd, kq, ke⟩ := h
    have hr1 : Room 2 _ := hr.mono (by decide)
    refine ⟨_, pss_cons (ps_if (pt_not (pt_val (pe_call GB hr1 rfl T.tn.bet.g T.tn.bet.F.kp T.tn.bet.b .nil pass0 (pa_cons (pv 1) (pa_cons pe_int (pa_cons (pe_op op_sub (pe_callB call_len_seq (by rfl) T.tn.len PySem.boot_len (pa_cons (pv 0) pa_nil)) pe_int) pa_nil))))))
        (pss_one (ps_raiseEx rfl T.bn hr (takes_of rfl rfl rfl rfl) (by exact (pa_cons (pv 1) pa_nil)) rfl)) pss_nil)
      (pss_one (ps_ret (pv 1))), ?_⟩
    refine ⟨_, rfl, _, rfl, b, _, rfl, .inr (SqT.of hb), _, _, rfl, rfl, v, d, 0, (xs.length : Int) - 1, rfl, hd, _, rfl, ?_⟩
    rcases hbt : betw d 0 ((xs.length : Int) - 1) with _ | _
    · exact iteT ⟨_, rfl, _, rfl, fun dd hdd => ke hbt dd hdd⟩
    · exact iteF ⟨_, rfl, kq hbt⟩
theorem scShare : FnScope ["plan", "_", "gaps", "above", "below", "gap", "common"] ["plan"] (defScope sShare) := ⟨rfl, rfl, rfl, by decide +kernel, rfl, by decide +kernel, by decide +kernel⟩
theorem Good.get {hi : Int} {gs : List Int} (G : Good hi gs) {i : Nat} {g : Int} (h : gs[i]? = some g) : 1 ≤ g ∧ g ≤ bigGap := G.all g (List.mem_of_getElem? h)
theorem sh_at {gs : List Int} (h : ∀ g ∈ gs, 1 ≤ g ∧ g ≤ bigGap) : ∀ i, i ≤ gs.length → ShB i ((gs.take i).foldl shF (0, 1))
  | 0, _ => ShB.zero
  | i + 1, hi => by
    have e : gs[i]? = some gs[i] := List.getElem?_eq_getElem (by omega)
    rw [fold_take shF (0, 1) gs e]
    have hg := h gs[i] (List.getElem_mem ..)
    exact (sh_at h i (by omega)).step hg.1 hg.2
theorem ok_share {f : Addr} {fd : FuncData} (F : Fun K "share_of" "share_of" sShare f fd) (T : TxP P K mg C fI CN fJ fB fG fN fM fdB fdG fdN fdM) : FnOk P w K mg base CX0 5 f fd ["plan"] spShare := by
  have GN : FnOk P w K mg base (L2.CX P w) 4 fN fdN ["thing"] (spNeed C) := ok_need T.need.F T.tn
  refine F.ok scShare (fun vs H Q E h => ?_) (fun cdv A outer s H vs Q E hr h => ?_)
  · obtain ⟨v, hi, gs, rfl, _⟩ := h
    rfl
  · obtain ⟨v, hi, gs, rfl, hd, G, k⟩ := h
    have nd := scShare.nd
    have hr4 : Room 4 _ := hr.mono (by decide)
    refine ⟨_, pss_cons (ps_asg (pe_callS GN hr4 rfl T.need.g T.need.F.kp T.need.b (fun σ => passAt LamX.takes0 σ) (by exact (pa_cons (pv 0) pa_nil))) (pg_tup (by rfl) (pgs_cons (pg_name (i := 1) nd rfl (.inl rfl)) (pgs_cons (pg_name (i := 2) nd rfl (.inl rfl)) pgs_nil))))
      (pss_cons (ps_asg (pe_tup (pa_cons pe_int (pa_cons pe_int pa_nil))) (pg_tup (by rfl) (pgs_cons (pg_name (i := 3) nd rfl (.inl rfl)) (pgs_cons (pg_name (i := 4) nd rfl (.inl rfl)) pgs_nil))))
      (pss_cons (ps_for PassesOwn.never rfl (pi_tup (pv 2)) (pg_name (i := 5) nd rfl (.inl rfl))
        (pss_one (ps_par (i := 3) (j := 4) (by rfl) nd rfl rfl (by decide) rfl rfl (pa_cons (pe_op op_add (pe_op op_mulW (pv 3) (pv 5)) (pv 4)) (pa_cons (pe_op op_mulW (pv 4) (pv 5)) pa_nil)) (by rfl))))
      (pss_cons (ps_set (i := 6) nd rfl (.inl rfl) (pe_callBfun cr_gcd (by rfl) T.gcd (pa_cons (pv 3) (pa_cons (pv 4) pa_nil))))
      (pss_one (ps_ret (pe_tup (pa_cons (pe_op op_fdivW (pv 3) (pv 6)) (pa_cons (pe_op op_fdivW (pv 4) (pv 6)) pa_nil)))))))), ?_⟩
    refine ⟨_, rfl, v, _, rfl, hd, fun H1 _ s1 => ?_, fun p _ _ _ e => absurd (G.plc.symm.trans e) (by intro z; cases z)⟩
    obtain ⟨a, b, rfl, ha, hb⟩ := (s1.da hd).plan
    refine ⟨a, _, rfl, SqT.of ha, rfl, _, _, rfl, _, _, rfl, rfl, (by show 2 ≤ sizeLine; decide), fun p hp => ?_⟩
    refine ⟨p, _, rfl, SqT.of upd_same, rfl, _, _, rfl, _, _, rfl, rfl, ?_⟩
    have hb' : upd H1 p (.tup [.int 0, .int 1]) b = some (.tup (gs.map V.int)) := Same.new hp _ _ hb
    refine ⟨_, rfl, b, rfl, ⟨_, SqT.of hb'⟩, ?_⟩
    refine for_tup (xs := gs.map V.int) (fun i σ H' => ∃ g, σ = [some (.ref a), some (.int hi), some (.ref b), some (.int ((gs.take i).foldl shF (0, 1)).1), some (.int ((gs.take i).foldl shF (0, 1)).2), g, none] ∧ H' = upd H1 p (.tup [.int 0, .int 1]))
      ⟨_, rfl, rfl⟩ ?_ ?_ ?_
    · rintro i σ H2 _ ⟨g, _, rfl⟩
      exact SqT.of hb'
    · rintro i x σ H2 hx ⟨g, rfl, rfl⟩
      rw [List.getElem?_map] at hx
      obtain ⟨g1, hg1, rfl⟩ := Option.map_eq_some_iff.mp hx
      have hg := G.get hg1
      have hi8 : i < gs.length := (List.getElem?_eq_some_iff.mp hg1).1
      have B := sh_at G.all i (by omega)
      have l8 := G.l8
      obtain ⟨u1, u2⟩ := B.up (by omega)
      have u3 : g1.natAbs < 2 ^ 100 := abs_lt (by omega) (Int.lt_of_le_of_lt hg.2 big_lt)
      refine ⟨_, rfl, _, rfl, _, _, rfl, rfl, wide_mul u1 u3 (by decide) (by decide) (by decide), _, rfl, _, _, rfl, rfl, ?_⟩
      refine ⟨_, rfl, _, rfl, _, _, rfl, rfl, wide_mul u2 u3 (by decide) (by decide) (by decide), ?_⟩
      refine ⟨_, _, rfl, some (.int g1), ?_, rfl⟩
      rw [fold_take shF (0, 1) gs hg1]
      rfl
    · rintro σ H2 ⟨g, rfl, rfl⟩
      rw [List.length_map, List.take_length]
      have B := sh_at G.all gs.length (Nat.le_refl _)
      rw [List.take_length] at B
      obtain ⟨u1, u2⟩ := B.up G.l8
      have gp : 0 < ((Int.gcd (gs.foldl shF (0, 1)).1 (gs.foldl shF (0, 1)).2 : Nat) : Int) := by
        have := Int.gcd_pos_of_ne_zero_right (gs.foldl shF (0, 1)).1 (b := (gs.foldl shF (0, 1)).2) (by have := B.b0; omega)
        omega
      have gl : (((Int.gcd (gs.foldl shF (0, 1)).1 (gs.foldl shF (0, 1)).2 : Nat) : Int)).natAbs < 2 ^ 900 := by
        have h1 : (((Int.gcd (gs.foldl shF (0, 1)).1 (gs.foldl shF (0, 1)).2 : Nat) : Int)).natAbs ≤ (gs.foldl shF (0, 1)).2.natAbs := by
          rw [Int.natAbs_natCast]
          exact Nat.gcd_le_right _ (by have := B.b0; omega)
        exact Nat.lt_of_le_of_lt h1 u2
      have dv : ∀ x : Int, CDivW x ((Int.gcd (gs.foldl shF (0, 1)).1 (gs.foldl shF (0, 1)).2 : Nat) : Int) := fun x => wide_div gp gl (by decide) (by decide)
      refine ⟨_, rfl, _, rfl, _, _, rfl, ?_⟩
      refine ⟨_, rfl, _, rfl, _, _, rfl, rfl, dv _, _, rfl, _, rfl, _, _, rfl, rfl, dv _, (by show 2 ≤ sizeLine; decide), fun q hq => ?_⟩
      exact k _ _ ((s1.trans (Same.new hp)).trans (Same.new hq)) (.tup upd_same (.cons (.int _) (.cons (.int _) .nil)))
end
end K2
set_option Elab.async false
set_option linter.all false
set_option maxRecDepth 100000
set_option maxHeartbeats 4000000
namespace K2
open PySem L2 Gd PySem.ExG
set_option exponentiation.threshold 10000
def iD : PyData → Int
  | .int i => i
  | _ => 0
/-- with_gap, without: what comes out of a right plan -/
def wg (hi : Int) (gs : List Int) (dn di : PyData) : Rz :=
  if betw dn 0 ((gs.length : Int) - 1) = true then (if betw di 1 bigGap = true then .ok (planD hi (gs.take (iD dn).toNat ++ [iD di] ++ gs.drop ((iD dn).toNat + 1))) else .num di) else .num dn
def wo (hi : Int) (gs : List Int) (dn : PyData) : Rz :=
  if betw dn 0 ((gs.length : Int) - 1) = true then (if gs.length = 1 then .num dn else .ok (planD hi (gs.take (iD dn).toNat ++ gs.drop ((iD dn).toNat + 1)))) else .num dn
/-- of any thing in the plan's place -/
def Outs (C CN : Addr) (d : PyData) (z : Int → List Int → Rz) (H : Hp) (Q : VK) (E : XK) : Prop :=
  (∀ p, plc d = some p → Out C CN (.pla p) H Q E) ∧ ∀ hi gs, d = planD hi gs → Good hi gs → Out C CN (z hi gs) H Q E
def spWith (C CN : Addr) : Sp := fun vs H Q E => ∃ (v nv iv : V) (d dn di : PyData), vs = [v, nv, iv] ∧ Da H v d ∧ Da H nv dn ∧ Da H iv di ∧ Outs C CN d (fun hi gs => wg hi gs dn di) H Q E
def spWo (C CN : Addr) : Sp := fun vs H Q E => ∃ (v nv : V) (d dn : PyData), vs = [v, nv] ∧ Da H v d ∧ Da H nv dn ∧ Outs C CN d (fun hi gs => wo hi gs dn) H Q E
theorem sh_snd : ∀ (gs : List Int) (p : Int × Int), (gs.foldl shF p).2 = gs.foldl (· * ·) p.2
  | [], _ => rfl
  | g :: r, p => sh_snd r (shF p g)
section
variable {P : Program} {w : World} {K : PySem.W.Frag} {mg : Str → Option Value} {base : Heap} {C fI CN fJ fB fG fN fM : Addr} {fdB fdG fdN fdM : FuncData}
theorem scMany : FnScope ["plan", "_", "gaps", "many", "gap"] ["plan"] (defScope sMany) := ⟨rfl, rfl, rfl, by decide +kernel, rfl, by decide +kernel, by decide +kernel⟩
theorem ok_many {f : Addr} {fd : FuncData} (F : Fun K "how_many" "how_many" sMany f fd) (T : TxP P K mg C fI CN fJ fB fG fN fM fdB fdG fdN fdM) : FnOk P w K mg base CX0 5 f fd ["plan"] spMany := by
  have GN : FnOk P w K mg base (L2.CX P w) 4 fN fdN ["thing"] (spNeed C) := ok_need T.need.F T.tn
  refine F.ok scMany (fun vs H Q E h => ?_) (fun cdv A outer s H vs Q E hr h => ?_)
  · obtain ⟨v, hi, gs, rfl, _⟩ := h
    rfl
  · obtain ⟨v, hi, gs, rfl, hd, G, k⟩ := h
    have nd := scMany.nd
    have hr4 : Room 4 _ := hr.mono (by decide)
    refine ⟨_, pss_cons (ps_asg (pe_callS GN hr4 rfl T.need.g T.need.F.kp T.need.b (fun σ => passAt LamX.takes0 σ) (by exact (pa_cons (pv 0) pa_nil))) (pg_tup (by rfl) (pgs_cons (pg_name (i := 1) nd rfl (.inl rfl)) (pgs_cons (pg_name (i := 2) nd rfl (.inl rfl)) pgs_nil))))
      (pss_cons (ps_set (i := 3) nd rfl (.inl rfl) pe_int)
      (pss_cons (ps_for PassesOwn.never rfl (pi_tup (pv 2)) (pg_name (i := 4) nd rfl (.inl rfl)) (pss_one (ps_set (i := 3) nd rfl (.inl rfl) (pe_op op_mulW (pv 3) (pv 4)))))
      (pss_one (ps_ret (pv 3))))), ?_⟩
    refine ⟨_, rfl, v, _, rfl, hd, fun H1 _ s1 => ?_, fun p _ _ _ e => absurd (G.plc.symm.trans e) (by intro z; cases z)⟩
    obtain ⟨a, b, rfl, ha, hb⟩ := (s1.da hd).plan
    refine ⟨a, _, rfl, SqT.of ha, rfl, _, _, rfl, _, _, rfl, rfl, ?_⟩
    refine ⟨_, rfl, b, rfl, ⟨_, SqT.of hb⟩, ?_⟩
    refine for_tup (xs := gs.map V.int) (fun i σ H' => ∃ g, σ = [some (.ref a), some (.int hi), some (.ref b), some (.int ((gs.take i).foldl (· * ·) 1)), g] ∧ H' = H1)
      ⟨_, rfl, rfl⟩ ?_ ?_ ?_
    · rintro i σ H2 _ ⟨g, _, rfl⟩
      exact SqT.of hb
    · rintro i x σ H2 hx ⟨g, rfl, rfl⟩
      rw [List.getElem?_map] at hx
      obtain ⟨g1, hg1, rfl⟩ := Option.map_eq_some_iff.mp hx
      have hg := G.get hg1
      have hi8 : i < gs.length := (List.getElem?_eq_some_iff.mp hg1).1
      have B := sh_at G.all i (by omega)
      have l8 := G.l8
      obtain ⟨u1, u2⟩ := B.up (by omega)
      rw [sh_snd] at u2
      have u3 : g1.natAbs < 2 ^ 100 := abs_lt (by omega) (Int.lt_of_le_of_lt hg.2 big_lt)
      refine ⟨_, rfl, _, rfl, _, _, rfl, rfl, wide_mul u2 u3 (by decide) (by decide) (by decide), ?_⟩
      refine ⟨some (.int g1), ?_, rfl⟩
      rw [fold_take (· * ·) 1 gs hg1]
      rfl
    · rintro σ H2 ⟨g, rfl, rfl⟩
      rw [List.length_map, List.take_length]
      exact ⟨_, rfl, k _ s1⟩
/-- t[:n] + (x,) + t[n + 1:] of whole numbers -/
theorem take_ints (gs : List Int) (n : Nat) : (gs.map V.int).take n = (gs.take n).map V.int := List.map_take.symm
theorem drop_ints (gs : List Int) (n : Nat) : (gs.map V.int).drop n = (gs.drop n).map V.int := List.map_drop.symm
theorem sz1 {k : Nat} (h : k ≤ 2000) : k ≤ sizeLine := Nat.le_trans h (by rw [sizeLine_eq]; decide)
/-- t[:n] + (x,) + t[n + 1:] -/
theorem rd_put {σ : L2.St} {H : Hp} {Q : VK} {i j k : Nat} {b : Addr} {n x : Int} {gs : List Int} (e1 : σ[i]? = some (some (.ref b))) (e2 : σ[j]? = some (some (.int n))) (e3 : σ[k]? = some (some (.int x)))
    (hb : H b = some (.tup (gs.map V.int))) (n0 : 0 ≤ n) (n1 : n ≤ (gs.length : Int) - 1) (l : gs.length ≤ 8)
    (q : ∀ p H', Same H H' → H' p = some (.tup ((gs.take n.toNat ++ [x] ++ gs.drop (n.toNat + 1)).map V.int)) → Q (.ref p) H') :
    tOp rCatM (tOp rCatM (tSl rSlM (tVar i) tNoPart (tPart (tVar j))) (tTup (tCons (tVar k) tNil))) (tSl rSlM (tVar i) (tPart (tOp (rI0 fun i j => V.int (i + j)) (tVar j) (tC (V.int 1)))) tNoPart) σ H Q := by
  have ln : (gs.map V.int).length = gs.length := List.length_map ..
  have c1 : cutV (gs.map V.int) none (some n) = (gs.take n.toNat).map V.int := by rw [cut_take _ n0 (by omega), take_ints]
  have c2 : cutV (gs.map V.int) (some (n + 1)) none = (gs.drop (n.toNat + 1)).map V.int := by
    rw [cut_drop _ (by omega) (by omega), drop_ints, show (n + 1).toNat = n.toNat + 1 by omega]
  have l1 : (gs.take n.toNat).length ≤ 8 := Nat.le_trans (List.length_take_le ..) (by omega)
  have l2 : (gs.drop (n.toNat + 1)).length ≤ 8 := by rw [List.length_drop]; omega
  refine ⟨_, e1, _, e2, n, rfl, b, _, rfl, hb, fun p1 H1 x1 h1 => ?_⟩
  rw [c1] at h1
  refine ⟨_, e3, sz1 (by show 1 ≤ 2000; decide), fun p2 hp2 => ?_⟩
  refine ⟨p1, p2, _, _, rfl, rfl, Same.new hp2 _ _ h1, upd_same, sz1 (by rw [List.length_map]; show (gs.take n.toNat).length + 1 ≤ 2000; omega), fun p3 H3 x3 h3 => ?_⟩
  have s3 : Same H H3 := (x1.same.trans (Same.new hp2)).trans x3.same
  refine ⟨_, e1, _, e2, _, _, rfl, rfl, _, rfl, b, _, rfl, s3 _ _ hb, fun p4 H4 x4 h4 => ?_⟩
  rw [c2] at h4
  refine ⟨p3, p4, _, _, rfl, rfl, x4.same _ _ h3, h4, sz1 (by rw [List.length_append, List.length_map, List.length_map]; show (gs.take n.toNat).length + 1 + (gs.drop (n.toNat + 1)).length ≤ 2000; omega), fun p5 H5 x5 h5 => ?_⟩
  refine q p5 H5 ((s3.trans x4.same).trans x5.same) ?_
  rw [h5, List.map_append, List.map_append]
  rfl
/-- t[:n] + t[n + 1:] -/
theorem rd_cut {σ : L2.St} {H : Hp} {Q : VK} {i j : Nat} {b : Addr} {n : Int} {gs : List Int} (e1 : σ[i]? = some (some (.ref b))) (e2 : σ[j]? = some (some (.int n)))
    (hb : H b = some (.tup (gs.map V.int))) (n0 : 0 ≤ n) (n1 : n ≤ (gs.length : Int) - 1) (l : gs.length ≤ 8)
    (q : ∀ p H', Same H H' → H' p = some (.tup ((gs.take n.toNat ++ gs.drop (n.toNat + 1)).map V.int)) → Q (.ref p) H') :
    tOp rCatM (tSl rSlM (tVar i) tNoPart (tPart (tVar j))) (tSl rSlM (tVar i) (tPart (tOp (rI0 fun i j => V.int (i + j)) (tVar j) (tC (V.int 1)))) tNoPart) σ H Q := by
  have ln : (gs.map V.int).length = gs.length := List.length_map ..
  have c1 : cutV (gs.map V.int) none (some n) = (gs.take n.toNat).map V.int := by rw [cut_take _ n0 (by omega), take_ints]
  have c2 : cutV (gs.map V.int) (some (n + 1)) none = (gs.drop (n.toNat + 1)).map V.int := by
    rw [cut_drop _ (by omega) (by omega), drop_ints, show (n + 1).toNat = n.toNat + 1 by omega]
  have l1 : (gs.take n.toNat).length ≤ 8 := Nat.le_trans (List.length_take_le ..) (by omega)
  have l2 : (gs.drop (n.toNat + 1)).length ≤ 8 := by rw [List.length_drop]; omega
  refine ⟨_, e1, _, e2, n, rfl, b, _, rfl, hb, fun p1 H1 x1 h1 => ?_⟩
  rw [c1] at h1
  refine ⟨_, e1, _, e2, _, _, rfl, rfl, _, rfl, b, _, rfl, x1.same _ _ hb, fun p4 H4 x4 h4 => ?_⟩
  rw [c2] at h4
  refine ⟨p1, p4, _, _, rfl, rfl, x4.same _ _ h1, h4, sz1 (by rw [List.length_map, List.length_map]; omega), fun p5 H5 x5 h5 => ?_⟩
  refine q p5 H5 ((x1.same.trans x4.same).trans x5.same) ?_
  rw [h5, List.map_append]
theorem scWith : FnScope ["plan", "number", "gap", "hands", "gaps"] ["plan", "number", "gap"] (defScope sWith) := ⟨rfl, rfl, rfl, by decide +kernel, rfl, by decide +kernel, by decide +kernel⟩
theorem ok_with {f : Addr} {fd : FuncData} (F : Fun K "with_gap" "with_gap" sWith f fd) (T : TxP P K mg C fI CN fJ fB fG fN fM fdB fdG fdN fdM) : FnOk P w K mg base (L2.CX P w) 5 f fd ["plan", "number", "gap"] (spWith C CN) := by
  have GN : FnOk P w K mg base (L2.CX P w) 4 fN fdN ["thing"] (spNeed C) := ok_need T.need.F T.tn
  have GM : FnOk P w K mg base (L2.CX P w) 4 fM fdM ["gaps", "number"] (spNum CN) := ok_num T.num.F T
  have GG : FnOk P w K mg base CX0 3 fG fdG ["value"] spGap := ok_gap T.tn.isg.F T.tn
  refine F.okX scWith (fun vs H Q E h => ?_) (fun cdv A outer s H vs Q E hr h => ?_)
  · obtain ⟨v, nv, iv, d, dn, di, rfl, _⟩ := h
    rfl
  · obtain ⟨v, nv, iv, d, dn, di, rfl, hd, hn, hdi, kp, kg⟩ := h
    have nd := scWith.nd
    have hr4 : Room 4 _ := hr.mono (by decide)
    have hr2 : Room 3 _ := hr.mono (by decide)
    refine ⟨_, pss_cons (ps_asg (pe_callS GN hr4 rfl T.need.g T.need.F.kp T.need.b (fun σ => passAt (takes_of rfl rfl rfl rfl) σ) (by exact (pa_cons (pv 0) pa_nil))) (pg_tup (by rfl) (pgs_cons (pg_name (i := 3) nd rfl (.inl rfl)) (pgs_cons (pg_name (i := 4) nd rfl (.inl rfl)) pgs_nil))))
      (pss_cons (ps_expr (pe_callS GM hr4 rfl T.num.g T.num.F.kp T.num.b (fun σ => passAt (takes_of rfl rfl rfl rfl) σ) (by exact (pa_cons (pv 4) (pa_cons (pv 1) pa_nil)))))
      (pss_cons (ps_if (pt_not (pt_val (pe_call GG hr2 rfl T.tn.isg.g T.tn.isg.F.kp T.tn.isg.b .nil pass0 (pa_cons (pv 2) pa_nil))))
        (pss_one (ps_raiseEx rfl T.bn hr (takes_of rfl rfl rfl rfl) (by exact (pa_cons (pv 2) pa_nil)) rfl)) pss_nil)
      (pss_one (ps_ret (pe_tup (pa_cons (pv 3) (pa_cons (pe_op op_catM (pe_op op_catM (pe_slice sl_tupM (pv 4) po_none (po_some (pv 1))) (pe_tup (pa_cons (pv 2) pa_nil)))
        (pe_slice sl_tupM (pv 4) (po_some (pe_op op_add (pv 1) pe_int)) po_none)) pa_nil))))))), ?_⟩
    refine ⟨_, rfl, v, d, rfl, hd, fun H1 e s1 => ?_, fun p pw dd H1 e s1 hx hp => ?_⟩
    · obtain ⟨hi, gs, rfl, G⟩ := plc_right e
      have hk : Out C CN (wg hi gs dn di) H Q E := kg hi gs rfl G
      obtain ⟨a, b, rfl, ha, hb⟩ := (s1.da hd).plan
      refine ⟨a, _, rfl, SqT.of ha, rfl, _, _, rfl, _, _, rfl, rfl, ?_⟩
      have ln : ((gs.map V.int).length : Int) = gs.length := by rw [List.length_map]
      refine ⟨_, rfl, _, rfl, b, _, nv, dn, rfl, hb, (by rw [List.length_map]; have := G.l8; omega), s1.da hn, fun hb1 => ?_, fun hb0 dd hdd => ?_⟩
      · rw [ln] at hb1
        obtain ⟨n, rfl, n0, n1⟩ := betw_int hb1
        obtain rfl := Da.int_inv hn
        refine ⟨_, rfl, iv, di, rfl, s1.da hdi, _, rfl, ?_⟩
        rcases hbg : betw di 1 bigGap with _ | _
        · refine iteT ⟨_, rfl, iv, rfl, fun dd hdd => ?_⟩
          have ez : wg hi gs (.int n) di = .num di := by
            unfold wg
            rw [if_pos hb1, hbg]
            rfl
          rw [ez] at hk
          exact hk iv dd _ (s1.trans (Same.new hdd)) upd_same ((Same.new hdd).da (s1.da hdi))
        · obtain ⟨i, rfl, i0, i1⟩ := betw_int hbg
          obtain rfl := Da.int_inv hdi
          have ez : wg hi gs (.int n) (.int i) = .ok (planD hi (gs.take n.toNat ++ [i] ++ gs.drop (n.toNat + 1))) := by
            unfold wg
            rw [if_pos hb1, hbg]
            rfl
          rw [ez] at hk
          refine iteF ⟨_, rfl, ?_⟩
          refine rd_put (gs := gs) (b := b) (n := n) (x := i) rfl rfl rfl hb n0 n1 G.l8 fun p H2 s2 hp => ⟨sz1 (by show 2 ≤ 2000; decide), fun p2 hp2 => ?_⟩
          exact hk _ _ ((s1.trans s2).trans (Same.new hp2)) (plan_da upd_same (Same.new hp2 _ _ hp))
      · rw [ln] at hb0
        have ez : wg hi gs dn di = .num dn := by
          unfold wg
          rw [hb0]
          rfl
        rw [ez] at hk
        exact hk nv dd _ (s1.trans (Same.new hdd)) upd_same ((Same.new hdd).da (s1.da hn))
    · exact kp p e pw dd H1 s1 hx hp
end
end K2
set_option Elab.async false
set_option linter.all false
set_option maxRecDepth 100000
set_option maxHeartbeats 4000000
namespace K2
open PySem L2 Gd PySem.ExG
set_option exponentiation.threshold 10000
section
variable {P : Program} {w : World} {K : PySem.W.Frag} {mg : Str → Option Value} {base : Heap} {C fI CN fJ fB fG fN fM : Addr} {fdB fdG fdN fdM : FuncData}
theorem scWo : FnScope ["plan", "number", "hands", "gaps"] ["plan", "number"] (defScope sWo) := ⟨rfl, rfl, rfl, by decide +kernel, rfl, by decide +kernel, by decide +kernel⟩
theorem ok_wo {f : Addr} {fd : FuncData} (F : Fun K "without" "without" sWo f fd) (T : TxP P K mg C fI CN fJ fB fG fN fM fdB fdG fdN fdM) : FnOk P w K mg base (L2.CX P w) 5 f fd ["plan", "number"] (spWo C CN) := by
  have GN : FnOk P w K mg base (L2.CX P w) 4 fN fdN ["thing"] (spNeed C) := ok_need T.need.F T.tn
  have GM : FnOk P w K mg base (L2.CX P w) 4 fM fdM ["gaps", "number"] (spNum CN) := ok_num T.num.F T
  refine F.okX scWo (fun vs H Q E h => ?_) (fun cdv A outer s H vs Q E hr h => ?_)
  · obtain ⟨v, nv, d, dn, rfl, _⟩ := h
    rfl
  · obtain ⟨v, nv, d, dn, rfl, hd, hn, kp, kg⟩ := h
    have nd := scWo.nd
    have hr4 : Room 4 _ := hr.mono (by decide)
    refine ⟨_, pss_cons (ps_asg (pe_callS GN hr4 rfl T.need.g T.need.F.kp T.need.b (fun σ => passAt (takes_of rfl rfl rfl rfl) σ) (by exact (pa_cons (pv 0) pa_nil))) (pg_tup (by rfl) (pgs_cons (pg_name (i := 2) nd rfl (.inl rfl)) (pgs_cons (pg_name (i := 3) nd rfl (.inl rfl)) pgs_nil))))
      (pss_cons (ps_expr (pe_callS GM hr4 rfl T.num.g T.num.F.kp T.num.b (fun σ => passAt (takes_of rfl rfl rfl rfl) σ) (by exact (pa_cons (pv 3) (pa_cons (pv 1) pa_nil)))))
      (pss_cons (ps_if (pt_cmpR op_eq (pe_callB call_len_seq (by rfl) T.tn.len PySem.boot_len (pa_cons (pv 3) pa_nil)) pe_int (nomark _))
        (pss_one (ps_raiseEx rfl T.bn hr (takes_of rfl rfl rfl rfl) (by exact (pa_cons (pv 1) pa_nil)) rfl)) pss_nil)
      (pss_one (ps_ret (pe_tup (pa_cons (pv 2) (pa_cons (pe_op op_catM (pe_slice sl_tupM (pv 3) po_none (po_some (pv 1)))
        (pe_slice sl_tupM (pv 3) (po_some (pe_op op_add (pv 1) pe_int)) po_none)) pa_nil))))))), ?_⟩
    refine ⟨_, rfl, v, d, rfl, hd, fun H1 e s1 => ?_, fun p pw dd H1 e s1 hx hp => ?_⟩
    · obtain ⟨hi, gs, rfl, G⟩ := plc_right e
      have hk : Out C CN (wo hi gs dn) H Q E := kg hi gs rfl G
      obtain ⟨a, b, rfl, ha, hb⟩ := (s1.da hd).plan
      refine ⟨a, _, rfl, SqT.of ha, rfl, _, _, rfl, _, _, rfl, rfl, ?_⟩
      have ln : ((gs.map V.int).length : Int) = gs.length := by rw [List.length_map]
      refine ⟨_, rfl, _, rfl, b, _, nv, dn, rfl, hb, (by rw [List.length_map]; have := G.l8; omega), s1.da hn, fun hb1 => ?_, fun hb0 dd hdd => ?_⟩
      · rw [ln] at hb1
        obtain ⟨n, rfl, n0, n1⟩ := betw_int hb1
        obtain rfl := Da.int_inv hn
        refine ⟨_, rfl, b, _, rfl, .inr (SqT.of hb), rfl, _, rfl, ?_⟩
        by_cases h1 : gs.length = 1
        · have ez : wo hi gs (.int n) = .num (.int n) := by
            unfold wo
            rw [if_pos hb1, if_pos h1]
          rw [ez] at hk
          have e1 : V.int (((gs.map V.int).length : Nat) : Int) = V.int 1 := by
            rw [List.length_map, h1]
            rfl
          rw [decide_eq_true e1]
          refine iteT ⟨_, rfl, _, rfl, fun dd hdd => ?_⟩
          exact hk (.int n) dd _ (s1.trans (Same.new hdd)) upd_same (.int n)
        · have ez : wo hi gs (.int n) = .ok (planD hi (gs.take n.toNat ++ gs.drop (n.toNat + 1))) := by
            unfold wo
            rw [if_pos hb1, if_neg h1]
            rfl
          rw [ez] at hk
          have e1 : ¬ V.int (((gs.map V.int).length : Nat) : Int) = V.int 1 := fun z => by
            have z' := V.int.inj z
            rw [List.length_map] at z'
            omega
          rw [decide_eq_false e1]
          refine iteF ⟨_, rfl, ?_⟩
          refine rd_cut (gs := gs) (b := b) (n := n) rfl rfl hb n0 n1 G.l8 fun p H2 s2 hp => ⟨sz1 (by show 2 ≤ 2000; decide), fun p2 hp2 => ?_⟩
          exact hk _ _ ((s1.trans s2).trans (Same.new hp2)) (plan_da upd_same (Same.new hp2 _ _ hp))
      · rw [ln] at hb0
        have ez : wo hi gs dn = .num dn := by
          unfold wo
          rw [hb0]
          rfl
        rw [ez] at hk
        exact hk nv dd _ (s1.trans (Same.new hdd)) upd_same ((Same.new hdd).da (s1.da hn))
    · exact kp p e pw dd H1 s1 hx hp
/-! ### the law's own sums -/
theorem gcd_step {x y : Int} (x0 : 0 ≤ x) (y0 : 0 ≤ y) : Int.gcd y (x % y) = Int.gcd x y := by
  obtain ⟨m, rfl⟩ := Int.eq_ofNat_of_zero_le x0
  obtain ⟨n, rfl⟩ := Int.eq_ofNat_of_zero_le y0
  show Nat.gcd n (((m : Int) % (n : Int)).natAbs) = Nat.gcd m n
  rw [← Int.natCast_emod, Int.natAbs_natCast, Nat.gcd_comm m n, Nat.gcd_comm n (m % n)]
  exact (Nat.gcd_rec n m).symm
def spLow : Sp := fun vs H Q _ => ∃ a b : Int, vs = [.int a, .int b] ∧ 0 ≤ a ∧ 0 < b ∧ a.natAbs < 2 ^ 2000 ∧ b.natAbs < 2 ^ 2000 ∧
  ∀ p H', Same H H' → H' p = some (.tup [.int (low (a, b)).1, .int (low (a, b)).2]) → Q (.ref p) H'
theorem scLow : FnScope ["near", "far", "first", "second"] ["near", "far"] (defScope sLow) := ⟨rfl, rfl, rfl, by decide +kernel, rfl, by decide +kernel, by decide +kernel⟩
theorem ok_low {f : Addr} {fd : FuncData} (F : Fun K "_law_lowest" "_law_lowest" sLow f fd) (T : Txt K mg) : FnOk P w K mg base CX0 1 f fd ["near", "far"] spLow := by
  refine F.ok scLow (fun vs H Q E h => ?_) (fun cdv A outer s H vs Q E hr h => ?_)
  · obtain ⟨a, b, rfl, _⟩ := h
    rfl
  · obtain ⟨a, b, rfl, a0, b0, a1, b1, k⟩ := h
    have nd := scLow.nd
    refine ⟨_, pss_cons (ps_par (i := 2) (j := 3) (by rfl) nd rfl rfl (by decide) rfl rfl (pa_cons (pv 0) (pa_cons (pv 1) pa_nil)) (by rfl))
      (pss_cons (ps_while PassesOwn.never (pt_cmpR op_ne (pv 3) pe_int (nomark _))
        (pss_one (ps_par (i := 2) (j := 3) (by rfl) nd rfl rfl (by decide) rfl rfl (pa_cons (pv 3) (pa_cons (pe_op op_mod (pe_callTy call_int1 (by rfl) T.int (by decide +kernel) (pa_cons (pv 2) pa_nil)) (pv 3)) pa_nil)) (by rfl))))
      (pss_one (ps_ret (pe_tup (pa_cons (pe_op op_fdivW (pv 0) (pv 2)) (pa_cons (pe_op op_fdivW (pv 1) (pv 2)) pa_nil)))))), ?_⟩
    refine ⟨_, rfl, _, rfl, _, _, rfl, ?_⟩
    refine while_by (fun σ H' => H' = H ∧ ∃ x y : Int, σ = [some (.int a), some (.int b), some (.int x), some (.int y)] ∧ 0 ≤ x ∧ 0 ≤ y ∧ (0 < x ∨ 0 < y) ∧ Int.gcd x y = Int.gcd a b) (fun σ _ => match σ with | [_, _, _, some (.int y)] => y.toNat | _ => 0) ⟨rfl, a, b, rfl, a0, by omega, .inr b0, rfl⟩ ?_ ?_
    · rintro σ _ ⟨rfl, x, y, rfl, x0, y0, xy, hg⟩
      refine ⟨_, rfl, rfl, _, rfl, ?_⟩
      by_cases hy : y = 0
      · subst hy
        have xp : 0 < x := by omega
        have ex : x = ((Int.gcd a b : Nat) : Int) := by
          rw [← hg, Int.gcd_zero_right]
          omega
        have gl : x.natAbs < 2 ^ 2000 := by
          rw [ex, Int.natAbs_natCast]
          exact Nat.lt_of_le_of_lt (Nat.gcd_le_right _ (by omega)) b1
        refine iteF ?_
        refine ⟨_, rfl, _, rfl, _, _, rfl, rfl, wide_div xp gl (by decide) (by decide), _, rfl, _, rfl, _, _, rfl, rfl, wide_div xp gl (by decide) (by decide), sz1 (by show 2 ≤ 2000; decide), fun p hp => ?_⟩
        subst ex
        exact k p _ (Same.new hp) upd_same
      · have yp : 0 < y := by omega
        have ne : ¬ V.int y = V.int 0 := fun z => hy (V.int.inj z)
        rw [decide_eq_false ne]
        refine iteT ?_
        have m0 := Int.emod_nonneg x hy
        have m1 := Int.emod_lt_of_pos x yp
        refine ⟨_, rfl, _, rfl, .inl ⟨_, rfl, _, rfl, _, _, rfl, rfl, yp, _, _, rfl, ?_⟩⟩
        have inv : Int.gcd y (x % y) = Int.gcd a b := by
          rw [← hg]
          exact gcd_step x0 y0
        refine ⟨⟨rfl, y, x % y, rfl, by omega, m0, .inl yp, inv⟩, ?_⟩
        show (x % y).toNat < y.toNat
        omega
    · rintro σ _ Q Q' hQ h
      obtain ⟨v, e1, e2, b', e3, q⟩ := h
      exact ⟨v, e1, e2, b', e3, hQ _ _ q⟩
end
end K2
set_option Elab.async false
set_option linter.all false
set_option maxRecDepth 100000
set_option maxHeartbeats 4000000
namespace K2
open PySem L2 Gd PySem.ExG
set_option exponentiation.threshold 10000
theorem ShB.lo {i : Nat} {p : Int × Int} (h : ShB i p) : ShB i (low p) := by
  obtain ⟨a0, b0, a1, b1⟩ := h
  have gp : 0 < ((Int.gcd p.1 p.2 : Nat) : Int) := by
    have := Int.gcd_pos_of_ne_zero_right p.1 (b := p.2) (by omega)
    omega
  refine ⟨Int.ediv_nonneg a0 (Int.le_of_lt gp), Int.ediv_pos_of_pos_of_dvd b0 (Int.le_of_lt gp) (Int.gcd_dvd_right ..), Int.lt_of_le_of_lt (Int.ediv_le_self _ a0) a1, Int.lt_of_le_of_lt (Int.ediv_le_self _ (Int.le_of_lt b0)) b1⟩
theorem lawSum_take {gs : List Int} (h : ∀ g ∈ gs, 1 ≤ g ∧ g ≤ bigGap) {i : Nat} (hi : i ≤ gs.length) : ShB i ((gs.take i).foldl (fun p g => low (shF p g)) (0, 1)) := by
  have e : (gs.take i).foldl (fun p g => low (shF p g)) (0, 1) = low ((gs.take i).foldl shF (0, 1)) := lawSum_eq (gs := gs.take i) fun g hg => (h g (List.mem_of_mem_take hg)).1
  rw [e]
  exact (sh_at h i hi).lo
structure TxL (K : PySem.W.Frag) (mg : Str → Option Value) (fL : Addr) (fdL : FuncData) : Prop where
  tx : Txt K mg
  low : At K mg "_law_lowest" sLow ["near", "far"] fL fdL
def spSum : Sp := fun vs H Q _ => ∃ (b : Addr) (gs : List Int), vs = [.ref b] ∧ H b = some (.tup (gs.map V.int)) ∧ gs.length ≤ 8 ∧ (∀ g ∈ gs, 1 ≤ g ∧ g ≤ bigGap) ∧
  ∀ p H', Same H H' → H' p = some (.tup [.int (lawSum gs).1, .int (lawSum gs).2]) → Q (.ref p) H'
def spProd : Sp := fun vs H Q _ => ∃ (b : Addr) (gs : List Int), vs = [.ref b] ∧ H b = some (.tup (gs.map V.int)) ∧ gs.length ≤ 8 ∧ (∀ g ∈ gs, 1 ≤ g ∧ g ≤ bigGap) ∧ Q (.int (prodOf gs)) H
section
variable {P : Program} {w : World} {K : PySem.W.Frag} {mg : Str → Option Value} {base : Heap} {fL : Addr} {fdL : FuncData}
theorem scSum : FnScope ["sheet", "near", "far", "item"] ["sheet"] (defScope sSum) := ⟨rfl, rfl, rfl, by decide +kernel, rfl, by decide +kernel, by decide +kernel⟩
theorem ok_sum {f : Addr} {fd : FuncData} (F : Fun K "_law_sum" "_law_sum" sSum f fd) (T : TxL K mg fL fdL) : FnOk P w K mg base CX0 2 f fd ["sheet"] spSum := by
  have GL : FnOk P w K mg base CX0 1 fL fdL ["near", "far"] spLow := ok_low T.low.F T.tx
  refine F.ok scSum (fun vs H Q E h => ?_) (fun cdv A outer s H vs Q E hr h => ?_)
  · obtain ⟨b, gs, rfl, _⟩ := h
    rfl
  · obtain ⟨b, gs, rfl, hb, l8, hg, k⟩ := h
    have nd := scSum.nd
    refine ⟨_, pss_cons (ps_asg (pe_tup (pa_cons pe_int (pa_cons pe_int pa_nil))) (pg_tup (by rfl) (pgs_cons (pg_name (i := 1) nd rfl (.inl rfl)) (pgs_cons (pg_name (i := 2) nd rfl (.inl rfl)) pgs_nil))))
      (pss_cons (ps_for PassesOwn.never rfl (pi_tup (pv 0)) (pg_name (i := 3) nd rfl (.inl rfl))
        (pss_one (ps_asg (pe_call GL hr rfl T.low.g T.low.F.kp T.low.b .nil pass0 (pa_cons (pe_op op_add (pe_op op_mulW (pv 1) (pv 3)) (pv 2)) (pa_cons (pe_op op_mulW (pv 2) (pv 3)) pa_nil)))
          (pg_tup (by rfl) (pgs_cons (pg_name (i := 1) nd rfl (.inl rfl)) (pgs_cons (pg_name (i := 2) nd rfl (.inl rfl)) pgs_nil))))))
      (pss_one (ps_ret (pe_tup (pa_cons (pv 1) (pa_cons (pv 2) pa_nil)))))), ?_⟩
    refine ⟨sz1 (by show 2 ≤ 2000; decide), fun p hp => ?_⟩
    refine ⟨p, _, rfl, SqT.of upd_same, rfl, _, _, rfl, _, _, rfl, rfl, ?_⟩
    have s1 : Same H (upd H p (.tup [.int 0, .int 1])) := Same.new hp
    refine ⟨_, rfl, b, rfl, ⟨_, SqT.of (s1 _ _ hb)⟩, ?_⟩
    refine for_tup (xs := gs.map V.int) (fun i σ H' => Same H H' ∧ ∃ g, σ = [some (.ref b), some (.int ((gs.take i).foldl (fun p g => low (shF p g)) (0, 1)).1), some (.int ((gs.take i).foldl (fun p g => low (shF p g)) (0, 1)).2), g])
      ⟨s1, none, rfl⟩ ?_ ?_ ?_
    · rintro i σ H2 _ ⟨s2, _⟩
      exact SqT.of (s2 _ _ hb)
    · rintro i x σ H2 hx ⟨s2, g, rfl⟩
      rw [List.getElem?_map] at hx
      obtain ⟨g1, hg1, rfl⟩ := Option.map_eq_some_iff.mp hx
      have hgg := hg g1 (List.mem_of_getElem? hg1)
      have hi8 : i < gs.length := (List.getElem?_eq_some_iff.mp hg1).1
      have B := lawSum_take hg (i := i) (by omega)
      obtain ⟨u1, u2⟩ := B.up (by omega)
      have u3 : g1.natAbs < 2 ^ 100 := abs_lt (by omega) (Int.lt_of_le_of_lt hgg.2 big_lt)
      have B2 := B.step hgg.1 hgg.2
      obtain ⟨v1, v2⟩ := B2.up (by omega)
      have up : ∀ z : Nat, z < 2 ^ 900 → z < 2 ^ 2000 := fun z h => Nat.lt_trans h (Nat.pow_lt_pow_right (by decide) (by decide))
      refine ⟨_, rfl, _, rfl, _, _, rfl, rfl, wide_mul u1 u3 (by decide) (by decide) (by decide), _, rfl, _, _, rfl, rfl, ?_⟩
      refine ⟨_, rfl, _, rfl, _, _, rfl, rfl, wide_mul u2 u3 (by decide) (by decide) (by decide), ?_⟩
      refine ⟨_, _, rfl, B2.a0, B2.b0, up _ v1, up _ v2, fun q H3 s3 hq => ?_⟩
      refine ⟨q, _, rfl, SqT.of hq, rfl, _, _, rfl, _, _, rfl, rfl, s2.trans s3, some (.int g1), ?_⟩
      rw [fold_take (fun p g => low (shF p g)) (0, 1) gs hg1]
      rfl
    · rintro σ H2 ⟨s2, g, rfl⟩
      rw [List.length_map, List.take_length]
      refine ⟨_, rfl, _, rfl, sz1 (by show 2 ≤ 2000; decide), fun q hq => ?_⟩
      exact k q _ (s2.trans (Same.new hq)) upd_same
theorem scProd : FnScope ["sheet", "found", "item"] ["sheet"] (defScope sProd) := ⟨rfl, rfl, rfl, by decide +kernel, rfl, by decide +kernel, by decide +kernel⟩
theorem ok_prod {f : Addr} {fd : FuncData} (F : Fun K "_law_product" "_law_product" sProd f fd) : FnOk P w K mg base CX0 1 f fd ["sheet"] spProd := by
  refine F.ok scProd (fun vs H Q E h => ?_) (fun cdv A outer s H vs Q E hr h => ?_)
  · obtain ⟨b, gs, rfl, _⟩ := h
    rfl
  · obtain ⟨b, gs, rfl, hb, l8, hg, k⟩ := h
    have nd := scProd.nd
    refine ⟨_, pss_cons (ps_set (i := 1) nd rfl (.inl rfl) pe_int)
      (pss_cons (ps_for PassesOwn.never rfl (pi_tup (pv 0)) (pg_name (i := 2) nd rfl (.inl rfl)) (pss_one (ps_set (i := 1) nd rfl (.inl rfl) (pe_op op_mulW (pv 1) (pv 2)))))
      (pss_one (ps_ret (pv 1)))), ?_⟩
    refine ⟨_, rfl, b, rfl, ⟨_, SqT.of hb⟩, ?_⟩
    refine for_tup (xs := gs.map V.int) (fun i σ H' => H' = H ∧ ∃ g, σ = [some (.ref b), some (.int ((gs.take i).foldl (· * ·) 1)), g]) ⟨rfl, none, rfl⟩ ?_ ?_ ?_
    · rintro i σ _ _ ⟨rfl, _⟩
      exact SqT.of hb
    · rintro i x σ _ hx ⟨rfl, g, rfl⟩
      rw [List.getElem?_map] at hx
      obtain ⟨g1, hg1, rfl⟩ := Option.map_eq_some_iff.mp hx
      have hgg := hg g1 (List.mem_of_getElem? hg1)
      have hi8 : i < gs.length := (List.getElem?_eq_some_iff.mp hg1).1
      have B := sh_at hg i (by omega)
      obtain ⟨_, u2⟩ := B.up (by omega)
      rw [sh_snd] at u2
      have u3 : g1.natAbs < 2 ^ 100 := abs_lt (by omega) (Int.lt_of_le_of_lt hgg.2 big_lt)
      refine ⟨_, rfl, _, rfl, _, _, rfl, rfl, wide_mul u2 u3 (by decide) (by decide) (by decide), rfl, some (.int g1), ?_⟩
      rw [fold_take (· * ·) 1 gs hg1]
      rfl
    · rintro σ _ ⟨rfl, g, rfl⟩
      rw [List.length_map, List.take_length]
      exact ⟨_, rfl, k⟩
end
end K2
set_option Elab.async false
set_option linter.all false
set_option maxRecDepth 100000
set_option maxHeartbeats 4000000
namespace K2
open PySem L2 Gd PySem.ExG
set_option exponentiation.threshold 10000
/-- a plan that is right stands at v -/
structure Frm (H : Hp) (v : V) (hi : Int) (gs : List Int) : Prop where
  good : Good hi gs
  ex : ∃ (p q : Addr), v = .ref p ∧ H p = some (.tup [.int hi, .ref q]) ∧ H q = some (.tup (gs.map V.int))
/-- _law_drawn(m) -/
def spDrawn : Sp := fun vs H Q _ => ∃ (m c : Addr) (n : Nat), vs = [.ref m] ∧ MOk H m c n ∧ n ≤ 80000 ∧ ∀ (v : V) (hi : Int) (gs : List Int) (H' : Hp), Frm H' v hi gs → MOk H' m c (n + 30) → Grow m H H' → Q v H'
structure TxO (K : PySem.W.Frag) (mg : Str → Option Value) (fD fO : Addr) (fdD fdO : FuncData) : Prop where
  td : TxD K mg fD fdD
  of : At K mg "_law_of" sOf ["m", "some"] fO fdO
  tuple : mg "tuple" = none
  range : mg "range" = none
  list : mg "list" = none
section
variable {P : Program} {w : World} {K : PySem.W.Frag} {mg : Str → Option Value} {base : Heap} {fD fO : Addr} {fdD fdO : FuncData}
theorem scDrawn : FnScope ["m", "most", "lot", "spot", "item"] ["m"] (defScope sDrawn) := ⟨rfl, rfl, rfl, by decide +kernel, rfl, by decide +kernel, by decide +kernel⟩
theorem ok_drawn {f : Addr} {fd : FuncData} (F : Fun K "_law_drawn" "_law_drawn" sDrawn f fd) (T : TxO K mg fD fO fdD fdO) : FnOk P w K mg base CX0 3 f fd ["m"] spDrawn := by
  have GO : FnOk P w K mg base CX0 2 fO fdO ["m", "some"] spOf := ok_of T.of.F T.td
  have GD : FnOk P w K mg base CX0 1 fD fdD ["m", "many"] spDraw := ok_draw T.td.draw.F T.td.tx
  refine F.ok scDrawn (fun vs H Q E h => ?_) (fun cdv A outer s H vs Q E hr h => ?_)
  · obtain ⟨m, c, n, rfl, _⟩ := h
    rfl
  · obtain ⟨m, c, n, rfl, M, hn, k⟩ := h
    have nd := scDrawn.nd
    have hr1 : Room 1 _ := hr.mono (by decide)
    refine ⟨_, pss_cons (ps_set (i := 1) nd rfl (Or.inr rfl) (pe_call GO hr rfl T.of.g T.of.F.kp T.of.b .nil pass0 (pa_cons (pv 0) (pa_cons
        (pe_lst (pa_cons pe_int (pa_cons pe_int (pa_cons pe_int (pa_cons (pe_op op_pow pe_int pe_int) (pa_cons (pe_op op_pow pe_int pe_int) pa_nil)))))) pa_nil))))
      (pss_cons (ps_setLc (i := 2) (own := [("spot", 3)]) (g := gName 3) (tt := tYes) rfl nd rfl rfl (sw_true rfl rfl rfl (by decide +kernel))
          (pi_range1 rfl T.range (pa_cons (pe_op op_add pe_int (pe_call GD hr1 rfl T.td.draw.g T.td.draw.F.kp T.td.draw.b .nil pass0 (pa_cons (pv 0) (pa_cons pe_int pa_nil)))) pa_nil))
          (blkOk_by (N := ["m", "most", "lot", "spot", "item"]) (sc := defScope sDrawn) (by decide +kernel))
          (fun _ _ _ _ _ => by exact (pg_name (i := 3) nd rfl (Or.inl rfl)))
          (fun _ _ _ _ _ => pts_nil)
          (fun _ _ _ _ _ => by exact (pe_op op_add pe_int (pe_call GD hr1 rfl T.td.draw.g T.td.draw.F.kp T.td.draw.b .nil pass0 (pa_cons (pv 0) (pa_cons (pv 1) pa_nil))))))
      (pss_cons (ps_if (pt_cmpR op_eq (pe_call GD hr1 rfl T.td.draw.g T.td.draw.F.kp T.td.draw.b .nil pass0 (pa_cons (pv 0) (pa_cons pe_int pa_nil))) pe_int (nomark _))
        (pss_one (ps_setLc (i := 2) (own := [("item", 4)]) (g := gName 4) (tt := tYes) rfl nd rfl rfl (sw_true rfl rfl rfl (by decide +kernel))
          (pi_list (pv 2))
          (blkOk_by (N := ["m", "most", "lot", "spot", "item"]) (sc := defScope sDrawn) (by decide +kernel))
          (fun _ _ _ _ _ => by exact (pg_name (i := 4) nd rfl (Or.inl rfl)))
          (fun _ _ _ _ _ => pts_nil)
          (fun _ _ _ _ _ => by exact (pe_call GO hr rfl T.of.g T.of.F.kp T.of.b .nil pass0 (pa_cons (pv 0) (pa_cons (pe_lst (pa_cons pe_int (pa_cons (pe_op op_pow pe_int pe_int) (pa_cons pe_int (pa_cons (pv 4) pa_nil))))) pa_nil)))))) pss_nil)
      (pss_one (ps_ret (pe_tup (pa_cons (pe_op op_add pe_int (pe_call GD hr1 rfl T.td.draw.g T.td.draw.F.kp T.td.draw.b .nil pass0 (pa_cons (pv 0) (pa_cons pe_int pa_nil))))
        (pa_cons (pe_callTy call_tuple_of (by rfl) T.tuple (by decide +kernel) (pa_cons (pv 2) pa_nil)) pa_nil))))))), ?_⟩
    have z0 : ∀ k : Nat, k ≤ 100 → k ≤ sizeLine := fun k h => Nat.le_trans h (by rw [sizeLine_eq]; decide)
    have big : ∀ j : Int, 0 ≤ j → j < 100 → j.natAbs < 2 ^ 8000 := fun j a b => Nat.lt_trans (show j.natAbs < 2 ^ 10 by omega) (Nat.pow_lt_pow_right (by decide) (by decide))
    have cp : ∀ j : Int, 0 ≤ j → j ≤ 100 → CPow 10 j := fun j h1 h2 => ⟨h1, by omega, by decide⟩
    refine ⟨_, rfl, _, _, rfl, rfl, cp 9 (by decide) (by decide), _, _, rfl, rfl, cp 30 (by decide) (by decide), z0 5 (by decide), fun p1 h1 => ?_⟩
    refine ⟨m, c, p1, _, n, rfl, M.new h1, by omega, M.apart h1, upd_same, (by simp), (by simp), fun v1 H1 hv1 M1 g1 => ?_⟩
    obtain ⟨most, rfl, hm0, hm1⟩ : ∃ most : Int, v1 = .int most ∧ 1 ≤ most ∧ most ≤ bigGap := by
      simp only [List.mem_cons, List.not_mem_nil, or_false] at hv1
      rcases hv1 with rfl | rfl | rfl | rfl | rfl
      · exact ⟨_, rfl, by decide, by decide +kernel⟩
      · exact ⟨_, rfl, by decide, by decide +kernel⟩
      · exact ⟨_, rfl, by decide, by decide +kernel⟩
      · exact ⟨_, rfl, by decide +kernel, by decide +kernel⟩
      · exact ⟨_, rfl, by decide +kernel, by decide +kernel⟩
    have hmb : most.natAbs < 2 ^ 8000 := Nat.lt_trans (abs_lt (k := 100) (by omega) (Int.lt_of_le_of_lt hm1 big_lt)) (Nat.pow_lt_pow_right (by decide) (by decide))
    -- lot
    refine ⟨_, rfl, m, c, 8, n + 1, rfl, M1, by omega, by decide, big 8 (by decide) (by decide), fun r H2 r0 r1 M2 g2 => ?_⟩
    refine ⟨_, _, rfl, rfl, 1 + r, rfl, by omega, by omega, fun D hD => ?_⟩
    have Dm := M2.apart hD
    have Dc := M2.apartC hD
    refine lc_range (lo := 0) (n := (1 + r).toNat) (fun i H' => ∃ acc : List Int, H' D = some (.lst (acc.map V.int)) ∧ acc.length = i ∧ (∀ x ∈ acc, 1 ≤ x ∧ x ≤ bigGap) ∧ Grow m H2 H' ∧ MOk H' m c (n + 2 + i))
      ⟨[], upd_same, rfl, (fun x hx => by cases hx), Grow.new hD, M2.new hD⟩ ?_ ?_
    · rintro i H3 hi ⟨acc, e1, e2, e3, g3, M3⟩
      refine ⟨rfl, ?_⟩
      dsimp only [tYes]
      refine iteT ?_
      refine ⟨_, rfl, _, rfl, m, c, most, n + 2 + i, rfl, M3, by omega, by omega, hmb, fun r' H4 q0 q1 M4 g4 => ?_⟩
      refine ⟨_, _, rfl, rfl, _, g4 D _ Dm e1, ?_, ?_⟩
      · rw [List.length_map, sizeLine_eq]
        omega
      · refine ⟨acc ++ [1 + r'], ?_, ?_, ?_, ?_, ?_⟩
        · rw [upd_same, List.map_append]
          rfl
        · rw [List.length_append, e2]
          rfl
        · intro x hx
          rcases List.mem_append.mp hx with hx | hx
          · exact e3 x hx
          · rw [List.mem_singleton.mp hx]
            omega
        · intro b o hb q
          rw [upd_ne (ne_of_none q hD)]
          exact g4 b o hb (g3 b o hb q)
        · exact (M4.set Dm Dc).up (by omega)
    · rintro H3 ⟨acc, e1, e2, e3, g3, M3⟩
      have l1 : acc.length = (1 + r).toNat := e2
      have D3 : D ≠ m := M3.neL e1
      refine ⟨_, rfl, m, c, 3, n + 2 + (1 + r).toNat, rfl, M3, by omega, by decide, big 3 (by decide) (by decide), fun rr H4 _ _ M4 g4 => ⟨rfl, _, rfl, ?_⟩⟩
      have e4 : H4 D = some (.lst (acc.map V.int)) := g4 D _ D3 e1
      have g04 : Grow m H H4 := (Grow.new h1).trans (g1.trans (g2.trans (g3.trans g4)))
      refine ite2 (fun _ => ?_) (fun _ => ?_)
      · refine ⟨_, rfl, D, rfl, ⟨_, SqL.of e4⟩, fun D2 hD2 => ?_⟩
        have D2m := M4.apart hD2
        have D2c := M4.apartC hD2
        have DD : D ≠ D2 := ne_of_none e4 hD2
        refine lc_it (n := (acc.map V.int).length) walk_list (fun i H' => ∃ bcc : List Int, H' D2 = some (.lst (bcc.map V.int)) ∧ bcc.length = i ∧ (∀ x ∈ bcc, 1 ≤ x ∧ x ≤ bigGap) ∧ Grow m H4 H' ∧ MOk H' m c (n + 12 + i))
          ⟨[], upd_same, rfl, (fun x hx => by cases hx), Grow.new hD2, (M4.new hD2).up (by omega)⟩ (fun i H' _ ⟨_, _, _, _, g, _⟩ => SqL.of (g D _ D3 e4)) ?_ ?_
        · rintro i x _ H5 hi ⟨bcc, b1, b2, b3, g5, M5⟩ ⟨rfl, hx⟩
          rw [List.getElem?_map] at hx
          obtain ⟨y, hy, rfl⟩ := Option.map_eq_some_iff.mp hx
          have hyy := e3 y (List.mem_of_getElem? hy)
          rw [List.length_map] at hi
          refine ⟨rfl, ?_⟩
          dsimp only [tYes]
          refine iteT ?_
          refine ⟨_, rfl, _, _, rfl, rfl, cp 30 (by decide) (by decide), _, rfl, z0 4 (by decide), fun p2 h2 => ?_⟩
          refine ⟨m, c, p2, _, n + 12 + i, rfl, M5.new h2, by omega, M5.apart h2, upd_same, (by simp), (by simp), fun v2 H6 hv2 M6 g6 => ?_⟩
          have g6' : Grow m H5 H6 := (Grow.new h2).trans g6
          obtain ⟨z, rfl, z1, z2⟩ : ∃ z : Int, v2 = .int z ∧ 1 ≤ z ∧ z ≤ bigGap := by
            simp only [List.mem_cons, List.not_mem_nil, or_false] at hv2
            rcases hv2 with rfl | rfl | rfl | rfl
            · exact ⟨_, rfl, by decide, by decide +kernel⟩
            · exact ⟨_, rfl, by decide +kernel, by decide +kernel⟩
            · exact ⟨_, rfl, by decide, by decide +kernel⟩
            · exact ⟨_, rfl, hyy.1, hyy.2⟩
          refine ⟨_, g6' D2 _ D2m b1, ?_, ?_⟩
          · rw [List.length_map, sizeLine_eq]
            omega
          · refine ⟨bcc ++ [z], ?_, ?_, ?_, ?_, ?_⟩
            · rw [upd_same, List.map_append]
              rfl
            · rw [List.length_append, b2]
              rfl
            · intro x hx
              rcases List.mem_append.mp hx with hx | hx
              · exact b3 x hx
              · rw [List.mem_singleton.mp hx]
                exact ⟨z1, z2⟩
            · intro b o hb q
              rw [upd_ne (ne_of_none q hD2)]
              exact g6' b o hb (g5 b o hb q)
            · exact (M6.set D2m D2c).up (by omega)
        · rintro H5 ⟨bcc, b1, b2, b3, g5, M5⟩
          rw [List.length_map] at b2 M5
          refine ⟨_, rfl, m, c, 3, n + 12 + acc.length, rfl, M5, by omega, by decide, big 3 (by decide) (by decide), fun s H6 s0 s1 M6 g6 => ?_⟩
          refine ⟨_, _, rfl, rfl, _, rfl, D2, _, rfl, .inl ⟨SqL.of (g6 D2 _ D2m b1), fun q hq => ⟨z0 2 (by decide), fun p hp => ?_⟩⟩⟩
          have M7 := (M6.new (o := .tup (bcc.map V.int)) hq).new (o := .tup [.int (1 + s), .ref q]) hp
          refine k _ (1 + s) bcc _ ⟨⟨by omega, by omega, by omega, by omega, b3⟩, p, q, rfl, upd_same, ?_⟩ (M7.up (by omega)) (g04.trans (g5.trans (g6.trans ((Grow.new hq).trans (Grow.new hp)))))
          rw [upd_ne (ne_of_none (upd_same (H := H6)) hp)]
          exact upd_same
      · refine ⟨_, rfl, m, c, 3, n + 2 + (1 + r).toNat + 1, rfl, M4, by omega, by decide, big 3 (by decide) (by decide), fun s H6 s0 s1 M6 g6 => ?_⟩
        refine ⟨_, _, rfl, rfl, _, rfl, D, _, rfl, .inl ⟨SqL.of (g6 D _ D3 e4), fun q hq => ⟨z0 2 (by decide), fun p hp => ?_⟩⟩⟩
        have M7 := (M6.new (o := .tup (acc.map V.int)) hq).new (o := .tup [.int (1 + s), .ref q]) hp
        refine k _ (1 + s) acc _ ⟨⟨by omega, by omega, by omega, by omega, e3⟩, p, q, rfl, upd_same, ?_⟩ (M7.up (by omega)) (g04.trans (g6.trans ((Grow.new hq).trans (Grow.new hp))))
        rw [upd_ne (ne_of_none (upd_same (H := H6)) hp)]
        exact upd_same
end
end K2
set_option Elab.async false
set_option linter.all false
set_option maxRecDepth 100000
set_option maxHeartbeats 4000000
/-! try: .. except C1 as n: .. except C2 as n: .. -/
namespace Gd
open PySem PySem.Spec PyProof.Rows L2
/-- what a clause after the other wishes -/
def wAsM (K : PySem.W.Frag) (i : Nat) (Wout : WX) (D : Ends) : List (Value × (Addr → Value → Option Addr → TS)) → WX
  | [] => Wout
  | p :: r => wAs K p.1 i p.2 (wAsM K i Wout D r) D
/-- the clauses, all with the name n -/
inductive AsOk (X : Cx) (n : Str) : List ExceptHandler → List (Value × (Addr → Value → Option Addr → TS)) → Prop
  | nil : AsOk X n [] []
  | cons {cn : Str} {cv : Value} {rd : Addr → Value → Option Addr → TS} {st0 : Stmt} {more : List Stmt} {q1 q2 : Pos} {hs : List ExceptHandler} {ps : List (Value × (Addr → Value → Option Addr → TS))} (nm : Names X cn cv)
      (su : ∀ (x : Addr) (ob : Obj) (k : Value) (dd : Option Addr) (pn : List (Addr × Obj)), Zc k dd ob → (∃ fs, ob.data = .fields fs) → PSs (X.suite x ((x, ob) :: pn)) (st0 :: more) (rd x k dd))
      (rest : AsOk X n hs ps) : AsOk X n (.ExceptHandler (some (.Name cn q1)) (some n) (st0 :: more) q2 :: hs) ((cv, rd) :: ps)
section
variable {X : Cx} {n : Str} {i : Nat} {body : List Stmt} {h0 : ExceptHandler} {hs : List ExceptHandler} {ps : List (Value × (Addr → Value → Option Addr → TS))} {pos : Pos} {tb : WX → TS} {Wout : WX}
theorem ps_try_asM (hst : X.stack = X.env :: X.outer) (hfr : X.env.frame = some X.env.locals) (hN : X.N.Nodup) (hi : X.N[i]? = some n) (hk : X.env.kindOf n = some .local) (tk : Takes X Wout)
    (hb : ∀ (W : WX) (pn : List (Addr × Obj)) (xe : Value → Shared → Prop), Takes (X.tr pn xe) W → PassesOwn (model X.prog X.w) X.A X.env xe → PSs (X.tr pn xe) body (tb W)) (hh : AsOk X n (h0 :: hs) ps) :
    PS X (.Try body (h0 :: hs) [] [] pos) fun D σ H => tb (wAsM X.K i Wout D ps) D σ H := by
  constructor
  intro pins s σ H D I h
  have ok := I.ok
  have fra : X.A.frames = some (X.env :: X.outer) := ok.frames.trans (congrArg some hst)
  let catch_ : Value → Shared → Prop := fun e s1 => wpAny (model X.prog X.w) X.A (noteFrame e X.env)
    (fun _ s2 => wpAny (model X.prog X.w) X.A (setFlight e none) (fun _ s3 => wpAny (model X.prog X.w) X.A (handleBy e X.env (h0 :: hs)) (SP X pins D) X.xe s3) X.xe s2) X.xe s1
  have inn : Takes (X.tr (X.pn ++ pins) catch_) (wAsM X.K i Wout D ps) := by
    intro u s1 xx
    obtain ⟨x, B, sI, pins', τ, G, k, dd, rfl, J0, nb, up, sky, na, os, ag, wish⟩ := xx
    have J := J0.ofTry ok
    rw [show (X.tr (X.pn ++ pins) catch_).stack = X.env :: X.outer from hst] at sky
    show wpAny _ _ (noteFrame (.ref x) X.env) _ _ _
    refine Sky.land Zc.steady fra hfr sky fun hp lands up1 => ?_
    obtain ⟨ob, fs, gx, zx, dx⟩ := lands.there
    have J1 : Inv X pins τ G { s1 with heap := hp } := J.landed nb lands.1 (up.trans up1) os ag
    have offFrames : x ∉ frs (X.env :: X.outer) := by
      intro hm
      obtain ⟨_, o2, g2, nf⟩ := lands.2.2.1.mem hm
      rw [gx] at g2
      cases g2
      exact nf _ dx
    have xl : x ≠ X.env.locals := by
      rintro rfl
      exact offFrames (List.mem_filterMap.mpr ⟨X.env, List.mem_cons_self, hfr⟩)
    have xf : x ∉ X.fs := by
      intro hm
      obtain ⟨e, he, q⟩ := List.mem_filterMap.mp hm
      exact offFrames (List.mem_filterMap.mpr ⟨e, List.mem_cons_of_mem _ he, q⟩)
    have S1 := J1.suite gx dx na xl xf
    have step : ∀ {gs : List ExceptHandler} {rs : List (Value × (Addr → Value → Option Addr → TS))}, AsOk X n gs rs → wAsM X.K i Wout D rs k dd τ G →
        wpAny (model X.prog X.w) X.A (handleBy (.ref x) X.env gs) (SP X pins D) X.xe { s1 with heap := hp } := by
      intro gs rs hg
      induction hg with
      | nil =>
        intro w0
        refine wpAny_handleBy_nil ?_
        obtain ⟨_, _, _, ob2, fs2, T, oT, t2, g2, z2, d2, f1, _⟩ := id lands
        have out : wpAny (model X.prog X.w) X.A (setFlight (.ref x) X.env.frame) (fun _ s4 => wpAny (model X.prog X.w) X.A (throw (.ref x) : Sem Flow) (SP X pins D) X.xe s4) X.xe { s1 with heap := hp } := by
          rw [hfr]
          refine HandSPX.setFlight_upZ lands fun h4 l4 up4 => wpAny_throw (tk _ _ ?_)
          exact ⟨x, B, sI, pins, τ, G, k, dd, rfl, J, nb, (up.trans up1).trans up4, .inr (.inr (by rw [hst]; exact l4)), na, os, ag, w0⟩
        unfold PySem.passOn
        refine wpAny_bind (wpAny_field g2 d2 f1 ?_)
        have nN : ¬ ((Value.ref T == Value.none) = true) := by simp
        rw [if_neg nN]
        first
          | exact wpAny_bind out
          | exact wpAny_bind (wpAny_pure (wpAny_bind out))
      | @cons cn cv rd st0 more q1 q2 hs2 ps2 nm su rest ih =>
        rintro ⟨b, eb, yes, no⟩
        refine wpAny_handleBy_cons (codeAny_handlers_test ?_) (by intro q; cases q)
        have lk : PySem.W.Looks (model X.prog X.w) hp (typeOf (.ref x)) k := fun A Q E s2 kp q => wpAny_typeOf_ref (kp _ _ gx) (by rw [zx.1]; exact q)
        have mt := PySem.W.exm_one (M := model X.prog X.w) J1.kIn lk eb
        have ask : ∀ {R E : Value → Shared → Prop}, R cv { s1 with heap := hp } → wpAny (model X.prog X.w) (X.A.mark (some (.ref x))) (eval (.Name cn q1) X.env) R E { s1 with heap := hp } := by
          intro R E q
          obtain ⟨g1, dbg, m1 | ⟨m1, v1, n1⟩⟩ := nm
          · exact ld_glob (X := X.suite x ((x, ob) :: (X.pn ++ pins))) S1 g1 m1 q dbg
          · exact ld_blt (X := X.suite x ((x, ob) :: (X.pn ++ pins))) S1 g1 m1 v1 q n1 dbg
        refine ask (mt.here ?_)
        cases b with
        | false =>
          show wpAny _ X.A (handleBy (.ref x) X.env hs2) _ _ _
          exact ih (no rfl)
        | true =>
          refine codeAny_handlers_suite_as (HandSPX.lands_againZ lands fun h4 l4 up4 => ?_)
          obtain ⟨ob4, fs4, g4, z4, d4⟩ := l4.there
          have S4 := (J.landed (s' := { s1 with heap := h4 }) nb l4.1 ((up.trans up1).trans up4) os ag).suite g4 d4 na xl xf
          refine store_ok (X := X.suite x ((x, ob4) :: (X.pn ++ pins))) (v := .ref x) S4 hN hi (.inl hk) rfl (fun s5 S5 => ?_) (.inr hk)
          have run := (su x ob4 k dd (X.pn ++ pins) z4 ⟨_, d4⟩).run [] s5 _ G _ S5 (yes rfl x na)
          refine wpAny_mono run (fun fl s6 hsp => ?_) (fun _ _ z => z.elim)
          have leave : ∀ {τ6 : L2.St} {G6 : Hp} {R : Shared → Prop}, Inv (X.suite x ((x, ob4) :: (X.pn ++ pins))) [] τ6 G6 s6 → (∀ s7, Inv X pins (τ6.set i none) G6 s7 → R s7) →
              wpAny (model X.prog X.w) X.A (do bindName X.env n .none; unbindBehindTheSuite X.env n q2) (fun _ s7 => R s7) X.xe s6 := fun {τ6 G6 R} S6 hq => gone_ok (S6.unsuite ok) hN hi hk hq
          cases fl with
          | next =>
            obtain ⟨τ6, G6, S6, q6⟩ := hsp
            exact leave S6 fun s7 J7 => ⟨_, _, J7, q6⟩
          | brk =>
            obtain ⟨τ6, G6, S6, q6⟩ := hsp
            exact leave S6 fun s7 J7 => ⟨_, _, J7, q6⟩
          | cont =>
            obtain ⟨τ6, G6, S6, q6⟩ := hsp
            exact leave S6 fun s7 J7 => ⟨_, _, J7, q6⟩
          | ret u =>
            obtain ⟨v6, τ6, G6, S6, r6, q6⟩ := hsp
            exact leave S6 fun s7 J7 => ⟨_, _, _, J7, r6, q6⟩
    exact step hh wish
  have ran := (hb (wAsM X.K i Wout D ps) (X.pn ++ pins) catch_ inn PassesOwn.looking).run [] s σ H D (I.toTry _) h
  refine wpAny_Try_except (wpAny_mono ran (fun fl s1 hsp => ?_) fun e s1 he => he)
  cases fl with
  | next =>
    obtain ⟨τ, G, J, q⟩ := hsp
    exact wpAny_execs_nil ⟨τ, G, J.ofTry ok, q⟩
  | brk =>
    obtain ⟨τ, G, J, q⟩ := hsp
    exact ⟨τ, G, J.ofTry ok, q⟩
  | cont =>
    obtain ⟨τ, G, J, q⟩ := hsp
    exact ⟨τ, G, J.ofTry ok, q⟩
  | ret u =>
    obtain ⟨v, τ, G, J, r, q⟩ := hsp
    exact ⟨v, τ, G, J.ofTry ok, r, q⟩
end
end Gd
set_option Elab.async false
set_option linter.all false
set_option maxRecDepth 100000
set_option maxHeartbeats 4000000
namespace K2
open PySem L2 Gd PySem.ExG LamX
set_option exponentiation.threshold 10000
/-- what _law_said makes of a call that comes out so -/
def TTs (C CN : Addr) : (XK → Hp → VK → Prop) → Hp → VK → Prop := fun tl H Q =>
  ∃ z : Rz, (∀ Qc Ec, Out C CN z H Qc Ec → tl Ec H Qc) ∧ ∀ r H', Same H H' → Da H' r z.said → Q r H'
def ts_num (CN : Addr) : Addr → Value → Option Addr → TS := fun a cls d => tAsg (tTup (tCons (tC (.str "number")) (tCons (tByEx CN "value" a cls d (tVar 2)) tNil))) (gName 1)
def ts_pla (C : Addr) : Addr → Value → Option Addr → TS := fun a cls d => tAsg (tTup (tCons (tC (.str "plan")) (tCons (tByEx C "place" a cls d (tVar 2)) tNil))) (gName 1)
theorem scSaid : FnScope ["call", "found", "e"] ["call"] (defScope sSaid) := ⟨rfl, rfl, rfl, by decide +kernel, rfl, by decide +kernel, by decide +kernel⟩
/-- the two classes are apart -/
structure Apart (K : PySem.W.Frag) (C CN : Addr) : Prop where
  te : PySem.W.exmOne K (.ref C) (.ref CN) = some false
theorem takes_len {X : Cx} {W : WX} (tk : Takes X W) : Takes X fun cls d σ H => σ.length = X.N.length → W cls d σ H := by
  intro u s1 xx
  obtain ⟨a, B, sI, pins, τ, G, k, dd, e, J, nb, up, sky, na, os, ag, wish⟩ := xx
  exact tk u s1 ⟨a, B, sI, pins, τ, G, k, dd, e, J, nb, up, sky, na, os, ag, wish J.len⟩
theorem three {α : Type} {σ : List α} (h : σ.length = 3) : ∃ a b c, σ = [a, b, c] := by
  match σ, h with
  | [a, b, c], _ => exact ⟨a, b, c, rfl⟩
theorem said_gives {X : Cx} {g C fI CN fJ fB fG fN fM : Addr} {fdB fdG fdN fdM : FuncData} {cdv : Value} {q : Str} (T : TxP X.prog X.K X.mg C fI CN fJ fB fG fN fM fdB fdG fdN fdM) (ap : Apart X.K C CN) :
    GivesTo X ["call", "found", "e"] "_law_said" (defScope sSaid) g cdv (defBody sSaid) "call" q (TTs C CN) := by
  intro f c' s H Q tl act hc h
  obtain ⟨z, hz, kq⟩ := h
  have nd := scSaid.nd
  refine ⟨_, pss_cons (ps_set (i := 1) nd rfl (Or.inl rfl) pe_non)
    (pss_cons (ps_try_asM (X := (cxOf C8.CX0 X.prog X.w X.K X.mg X.base ["call", "found", "e"] "_law_said" (defScope sSaid) g cdv X.A X.stack s H C8.E0).nox) (i := 2) (n := "e")
        (tb := fun W D σ H => ∃ Ech : XK, (∀ cls d σ' H', Ech cls d H' → σ'.length = 3 → W cls d σ' H') ∧ σ[0]? = some (some (.ref f)) ∧ H c' = some (CodeO c' q) ∧
          tl Ech H fun v H1 => (1 : Nat) ≤ sizeLine ∧ ∀ p, H1 p = none → D.nx (σ.set 1 (some (.ref p))) (upd H1 p (.lst [v])))
        (ps := [(.ref CN, ts_num CN), (.ref C, ts_pla C)]) rfl rfl nd rfl rfl LamX.takes0
        (fun W pn xe tk _ => ?_)
        (.cons ⟨rfl, by decide, Or.inl T.bn.gC⟩ (fun a oe cls d pn hz hf => pss_one (ps_set (i := 1) nd rfl (Or.inl rfl) (by exact (pe_tup (pa_cons pe_str (pa_cons (pe_byEx T.bn hz hf (pv 2)) pa_nil))))))
          (.cons ⟨rfl, by decide, Or.inl T.tn.bad.gC⟩ (fun a oe cls d pn hz hf => pss_one (ps_set (i := 1) nd rfl (Or.inl rfl) (by exact (pe_tup (pa_cons pe_str (pa_cons (pe_byEx T.tn.bad hz hf (pv 2)) pa_nil)))))) .nil)))
    (pss_one (ps_ret (pv 1)))), ?_⟩
  · refine ⟨fun pins s' σ H' D I h' => ?_⟩
    obtain ⟨Ech, hW, h1, h2, h3⟩ := h'
    exact PSs.run (t := tAsg (tLst (tCons (fun σZ HZ Q => σZ[0]? = some (some (.ref f)) ∧ HZ c' = some (CodeO c' q) ∧ tl Ech HZ Q) tNil)) (gName 1))
      (by exact (pss_one (ps_set (i := 1) nd rfl (Or.inl rfl) (by exact (pe_lst (pa_cons (act _ pn xe Ech _ _ (takes_len tk) hW) pa_nil)))))) pins s' σ H' D I ⟨h1, h2, h3⟩
  · have two : (2 : Nat) ≤ sizeLine := by decide
    cases z with
    | ok d =>
      refine ⟨fun _ _ _ => False, fun _ _ _ _ z => z.elim, rfl, hc, hz _ _ fun r H' s1 hd => ?_⟩
      refine ⟨by decide, fun p hp => ⟨_, rfl, kq _ _ (s1.trans (Same.new hp)) (.lst upd_same (.cons ((Same.new hp).da hd) .nil))⟩⟩
    | num d =>
      refine ⟨fun cls dd H' => cls = .ref CN ∧ ∃ x v, dd = some x ∧ Same H H' ∧ H' x = some (.xd [("value", v)]) ∧ Da H' v d, ?_, rfl, hc, hz _ _ fun v dd H' s1 hx hd => ⟨rfl, dd, v, rfl, s1, hx, hd⟩⟩
      rintro cls d0 σ' H' ⟨rfl, x, v, rfl, s1, hx, hd⟩ l3
      obtain ⟨a, b, c, rfl⟩ := three l3
      refine ⟨true, T.bn.te, fun _ a0 _ => ?_, fun q => Bool.noConfusion q⟩
      refine ⟨_, rfl, rfl, rfl, x, _, rfl, hx, two, fun p hp => ⟨_, rfl, ?_⟩⟩
      exact kq _ _ (s1.trans (Same.new hp)) (.tup upd_same (.cons (.str _) (.cons ((Same.new hp).da hd) .nil)))
    | pla pl =>
      refine ⟨fun cls dd H' => cls = .ref C ∧ ∃ x v, dd = some x ∧ Same H H' ∧ H' x = some (.xd [("place", v)]) ∧ Da H' v (plD pl), ?_, rfl, hc, hz _ _ fun v dd H' s1 hx hd => ⟨rfl, dd, v, rfl, s1, hx, hd⟩⟩
      rintro cls d0 σ' H' ⟨rfl, x, v, rfl, s1, hx, hd⟩ l3
      obtain ⟨a, b, c, rfl⟩ := three l3
      refine ⟨false, ap.te, fun q => Bool.noConfusion q, fun _ => ⟨true, T.tn.bad.te, fun _ a0 _ => ?_, fun q => Bool.noConfusion q⟩⟩
      refine ⟨_, rfl, rfl, rfl, x, _, rfl, hx, two, fun p hp => ⟨_, rfl, ?_⟩⟩
      exact kq _ _ (s1.trans (Same.new hp)) (.tup upd_same (.cons (.str _) (.cons ((Same.new hp).da hd) .nil)))
end K2
set_option Elab.async false
set_option linter.all false
set_option maxRecDepth 100000
set_option maxHeartbeats 4000000
namespace K2
open PySem L2 Gd PySem.ExG
set_option exponentiation.threshold 10000
theorem sG {m : Addr} {A B : Hp} (s : Same A B) : Grow m A B := fun b o _ h => s b o h
/-- _law_any(m, frame) -/
def spAny : Sp := fun vs H Q _ => ∃ (m c : Addr) (n : Nat) (v : V) (hi : Int) (gs : List Int), vs = [.ref m, v] ∧ MOk H m c n ∧ n ≤ 80000 ∧ Frm H v hi gs ∧
  ∀ (x : V) (H' : Hp), Thg 640 3 H' m x → MOk H' m c (n + 2) → Grow m H H' → Q x H'
section
variable {P : Program} {w : World} {K : PySem.W.Frag} {mg : Str → Option Value} {base : Heap} {fD fO : Addr} {fdD fdO : FuncData}
theorem scAny : FnScope ["m", "frame", "some"] ["m", "frame"] (defScope sAny) := ⟨rfl, rfl, rfl, by decide +kernel, rfl, by decide +kernel, by decide +kernel⟩
theorem ok_any {f : Addr} {fd : FuncData} (F : Fun K "_law_any" "_law_any" sAny f fd) (T : TxO K mg fD fO fdD fdO) : FnOk P w K mg base CX0 3 f fd ["m", "frame"] spAny := by
  have GO : FnOk P w K mg base CX0 2 fO fdO ["m", "some"] spOf := ok_of T.of.F T.td
  have GD : FnOk P w K mg base CX0 1 fD fdD ["m", "many"] spDraw := ok_draw T.td.draw.F T.td.tx
  refine F.ok scAny (fun vs H Q E h => ?_) (fun cdv A outer s H vs Q E hr h => ?_)
  · obtain ⟨m, c, n, v, hi, gs, rfl, _⟩ := h
    rfl
  · obtain ⟨m, c, n, v, hi, gs, rfl, M, hn, ⟨G, p, q, rfl, hp, hq⟩, k⟩ := h
    have nd := scAny.nd
    have hr1 : Room 1 _ := hr.mono (by decide)
    refine ⟨_, pss_cons (ps_set (i := 2) nd rfl (Or.inl rfl) (pe_lst (pa_cons pe_non (pa_cons pe_bl (pa_cons pe_bl (pa_cons (pe_un un_neg pe_int) (pa_cons pe_int (pa_cons pe_int (pa_cons pe_str (pa_cons (pe_tup pa_nil)
        (pa_cons (pe_lst (pa_cons pe_int pa_nil)) (pa_cons pe_dnewK (pa_cons (pe_op op_add (pe_op op_pow pe_int pe_int) pe_int) (pa_cons (pe_op op_pow pe_int pe_int) (pa_cons (pe_op op_pow pe_int pe_int) (pa_cons (pe_tup (pa_cons pe_int pa_nil)) pa_nil))))))))))))))))
      (pss_one (ps_ret (pe_call GO hr rfl T.of.g T.of.F.kp T.of.b .nil pass0 (pa_cons (pv 0) (pa_cons (pe_op op_cat (pe_op op_cat (pv 2)
        (pe_op op_rep (pe_listRg rfl rfl T.list (prg_1 rfl T.range (pe_op op_add (pe_callB call_len_seq (by rfl) T.td.tx.len PySem.boot_len (pa_cons (pe_ix ix_tup (pv 1) pe_int (fun _ _ => rfl)) pa_nil)) pe_int))) pe_int))
        (pe_lst (pa_cons (pe_op op_add pe_int (pe_call GD hr1 rfl T.td.draw.g T.td.draw.F.kp T.td.draw.b .nil pass0 (pa_cons (pv 0) (pa_cons (pe_op op_pow pe_int pe_int) pa_nil)))) pa_nil))) pa_nil))))), ?_⟩
    have z0 : ∀ k : Nat, k ≤ 1000 → k ≤ sizeLine := fun k h => Nat.le_trans h (by rw [sizeLine_eq]; decide)
    have cp : ∀ j : Int, 0 ≤ j → j ≤ 100 → CPow 10 j := fun j h1 h2 => ⟨h1, by omega, by decide⟩
    refine ⟨_, rfl, z0 0 (by decide), fun p1 h1 => ⟨z0 1 (by decide), fun p2 h2 p3 h3 => ?_⟩⟩
    refine ⟨_, _, rfl, rfl, cp 30 (by decide) (by decide), _, _, rfl, rfl, _, _, rfl, rfl, cp 60 (by decide) (by decide), _, _, rfl, rfl, cp 30 (by decide) (by decide), z0 1 (by decide), fun p4 h4 => ⟨z0 14 (by decide), fun p5 h5 => ?_⟩⟩
    have M1 := M.new (o := .tup []) h1
    have M2 := M1.new (o := .lst [.int 0]) h2
    have M3 := M2.new (o := .dK []) h3
    have M4 := M3.new (o := .tup [.int 1]) h4
    -- how the heap grew
    have s1 : Same H _ := Same.new (o := .tup []) h1
    have s2 := s1.trans (Same.new (o := .lst [.int 0]) h2)
    have s3 := s2.trans (Same.new (o := .dK []) h3)
    have s4 := s3.trans (Same.new (o := .tup [.int 1]) h4)
    have s5 := fun o => s4.trans (Same.new (o := o) h5)
    refine ⟨_, rfl, _, rfl, _, rfl, p, _, _, _, rfl, rfl, SqT.of (s5 _ _ _ hp), rfl, q, _, rfl, .inr (SqT.of (s5 _ _ _ hq)), _, _, rfl, rfl, _, rfl, ?_, fun p6 h6 => ?_⟩
    · rw [List.length_map]
      have := G.l8
      exact ⟨by decide, by decide, by omega, by omega, by omega⟩
    have g8 := G.l8
    have lr : (rgV 0 (((gs.map V.int).length : Nat) + 1)).length ≤ 9 := by
      unfold rgV
      rw [List.length_map, List.length_range, List.length_map]
      omega
    have li : ∀ x ∈ rgV 0 (((gs.map V.int).length : Nat) + 1), ∃ i : Int, x = .int i ∧ i.natAbs < 2 ^ 300 := by
      intro x hx
      unfold rgV at hx
      obtain ⟨i, hi1, rfl⟩ := List.mem_map.mp hx
      rw [List.mem_range, List.length_map] at hi1
      refine ⟨_, rfl, Nat.lt_trans (show ((0 : Int) + (i : Int)).natAbs < 2 ^ 10 by omega) (Nat.pow_lt_pow_right (by decide) (by decide))⟩
    have lf : ((List.replicate (2 : Int).toNat (rgV 0 (((gs.map V.int).length : Nat) + 1))).flatten).length ≤ 18 := by
      show (([rgV 0 (((gs.map V.int).length : Nat) + 1), rgV 0 (((gs.map V.int).length : Nat) + 1)] : List (List V)).flatten).length ≤ 18
      simp only [List.flatten_cons, List.flatten_nil, List.length_append, List.append_nil]
      omega
    have lfi : ∀ x ∈ (List.replicate (2 : Int).toNat (rgV 0 (((gs.map V.int).length : Nat) + 1))).flatten, ∃ i : Int, x = .int i ∧ i.natAbs < 2 ^ 300 := by
      intro x hx
      obtain ⟨l, hl, hx⟩ := List.mem_flatten.mp hx
      rw [List.eq_of_mem_replicate hl] at hx
      exact li x hx
    generalize hX : (List.replicate (2 : Int).toNat (rgV 0 (((gs.map V.int).length : Nat) + 1))).flatten = xs2 at lf lfi
    refine ⟨p6, 2, _, rfl, rfl, upd_same, by decide, by decide, z0 _ (by show _ * 2 ≤ 1000; omega), fun p7 h7 => ?_⟩
    rw [hX]
    have e5 := Same.new (o := .lst xs2) h7 _ _ (Same.new (o := .lst (rgV 0 (((gs.map V.int).length : Nat) + 1))) h6 _ _ (upd_same (H := upd (upd (upd (upd H p1 (.tup [])) p2 (.lst [.int 0])) p3 (.dK [])) p4 (.tup [.int 1]))))
    refine ⟨p5, p7, _, _, rfl, rfl, e5, upd_same, z0 _ (by simp only [List.length_cons, List.length_nil]; omega), fun p8 h8 => ?_⟩
    have M5 := (M4.new h5).new (o := .lst (rgV 0 (((gs.map V.int).length : Nat) + 1))) h6
    have M8 := fun o => (M5.new (o := .lst xs2) h7).new (o := o) h8
    have t6 := Same.new (o := .lst (rgV 0 (((gs.map V.int).length : Nat) + 1))) h6
    have t7 := t6.trans (Same.new (o := .lst xs2) h7)
    have t8 := fun o => t7.trans (Same.new (o := o) h8)
    have s8 := fun o => (s5 _).trans (t8 o)
    have big : ((10 : Int) ^ (30 : Int).toNat).natAbs < 2 ^ 8000 := Nat.lt_trans (show _ < 2 ^ 101 by decide +kernel) (Nat.pow_lt_pow_right (by decide) (by decide))
    refine ⟨_, rfl, _, _, rfl, rfl, cp 30 (by decide) (by decide), m, c, _, n, rfl, M8 _, by omega, by decide, big, fun r H9 r0 r1 M9 g9 => ⟨_, _, rfl, rfl, z0 1 (by decide), fun p9 h9 => ?_⟩⟩
    have e8 := g9 p8 _ ((M5.new (o := .lst xs2) h7).apart h8) upd_same
    refine ⟨p8, p9, _, _, rfl, rfl, Same.new h9 _ _ e8, upd_same, z0 _ (by simp only [List.length_append, List.length_cons, List.length_nil]; omega), fun p10 h10 => ?_⟩
    have M10 := fun o' => (M9.new h9).new (o := o') h10
    -- from each beginning to the end
    have c8 := fun o' => g9.trans ((Grow.new (m := m) h9).trans (Grow.new (m := m) (o := o') h10))
    have c5 := fun o' => (sG (m := m) (t8 _)).trans (c8 o')
    have c4 := fun o' => (Grow.new (m := m) h5).trans (c5 o')
    have c3 := fun o' => (Grow.new (m := m) h4).trans (c4 o')
    have c2 := fun o' => (Grow.new (m := m) h3).trans (c3 o')
    have c1 := fun o' => (Grow.new (m := m) h2).trans (c2 o')
    have c0 := fun o' => (Grow.new (m := m) h1).trans (c1 o')
    have u1 : Thg 640 3 (upd H p1 (.tup [])) m (.ref p1) := (th_tup (M.apart h1) upd_same (ThL.nil (n := 0) (k := 0))).up (by decide) (by decide)
    have one : ∀ (G : Hp) (i : Int), i.natAbs < 2 ^ 300 → ThL 310 0 G m [.int i] := fun G i h => ThL.cons (th_int3 h) ThL.nil
    have u2 := fun G h => (th_lst (n := 310) (k := 0) (H := G) (M1.apart h2) h (one G 0 (by decide))).up (n' := 640) (k' := 3) (by decide) (by decide)
    have u3 := fun G h => (th_dic (n := 0) (k := 0) (H := G) (kvs := []) (M2.apart h3) h ThL.nil (fun p hp => by cases hp)).up (n' := 640) (k' := 3) (by decide) (by decide)
    have u4 := fun G h => (th_tup (n := 310) (k := 0) (H := G) (M3.apart h4) h (one G 1 (by decide))).up (n' := 640) (k' := 3) (by decide) (by decide)
    refine ⟨m, c, p10, _, n + 1, rfl, M10 _, by omega, (M9.new h9).apart h10, upd_same, (by simp), (by simp only [List.length_append, List.length_cons, List.length_nil]; omega), fun v H' hv M' g => k v H' ((ThL.all ?_ v hv).grow g) M' ((c0 _).trans g)⟩
    have sn : ∀ {G : Hp} (x : Str), (reprText x).length ≤ 100 → Thg 640 3 G m (.str x) := fun x h => (th_str h).up (by decide) (by decide)
    refine ThL.append (ThL.append ?_ ?_) ?_
    · exact ThL.cons (th_none.up (by decide) (by decide)) (ThL.cons ((th_bool true).up (by decide) (by decide)) (ThL.cons ((th_bool false).up (by decide) (by decide)) (ThL.cons (ti (-1)) (ThL.cons (ti 0) (ThL.cons (ti 8)
        (ThL.cons (sn _ (by decide +kernel)) (ThL.cons (u1.grow (c1 _)) (ThL.cons ((u2 _ upd_same).grow (c2 _)) (ThL.cons ((u3 _ upd_same).grow (c3 _))
        (ThL.cons (ti _ (by decide +kernel)) (ThL.cons (ti _ (by decide +kernel)) (ThL.cons (ti _ (by decide +kernel)) (ThL.cons ((u4 _ upd_same).grow (c4 _)) ThL.nil)))))))))))))
    · refine ⟨fun x hx => ?_⟩
      obtain ⟨i, rfl, hi1⟩ := lfi x hx
      exact ti i hi1
    · refine ThL.cons (ti _ ?_) ThL.nil
      have : (2 : Nat) ^ 101 + 1 < 2 ^ 300 := by decide +kernel
      have hb : ((10 : Int) ^ (30 : Int).toNat).natAbs < 2 ^ 101 := by decide +kernel
      omega
end
end K2
set_option Elab.async false
set_option linter.all false
set_option maxRecDepth 100000
set_option maxHeartbeats 4000000
namespace Gd
open PySem L2
/-- all but m and the tables stands as it was -/
def GrowN (m : Addr) (H H' : Hp) : Prop := ∀ b o, b ≠ m → H b = some o → (∀ ps, o ≠ .tbl ps) → H' b = some o
theorem GrowN.trans {m : Addr} {A B C : Hp} (a : GrowN m A B) (b : GrowN m B C) : GrowN m A C := fun x o n h t => b x o n (a x o n h t) t
theorem GrowN.refl (m : Addr) (H : Hp) : GrowN m H H := fun _ _ _ h _ => h
mutual
theorem Da.ext {H H' : Hp} (k : LamX.ExtN H H') : ∀ {v : V} {d : PyData}, Da H v d → Da H' v d
  | _, _, .non => .non
  | _, _, .bl b => .bl b
  | _, _, .int i => .int i
  | _, _, .str x => .str x
  | _, _, .lst h r => .lst (k _ _ h (by intro ps z; cases z)) (r.ext k)
  | _, _, .tup h r => .tup (k _ _ h (by intro ps z; cases z)) (r.ext k)
  | _, _, .dic h r => .dic (k _ _ h (by intro ps z; cases z)) (r.ext k)
theorem DaL.ext {H H' : Hp} (k : LamX.ExtN H H') : ∀ {v : List V} {d : List PyData}, DaL H v d → DaL H' v d
  | _, _, .nil => .nil
  | _, _, .cons h r => .cons (h.ext k) (r.ext k)
end
end Gd
namespace K2
open PySem L2 Gd PySem.ExG LamX
set_option exponentiation.threshold 10000
theorem Grow.toN {m : Addr} {H H' : Hp} (g : Grow m H H') : GrowN m H H' := fun b o n h _ => g b o n h
theorem _root_.LamX.ExtN.toN {H H' : Hp} (g : ExtN H H') (m : Addr) : GrowN m H H' := fun b o _ h t => g b o h t
theorem mok_dict {H : Hp} {m c : Addr} {n : Nat} (M : MOk H m c n) : ∃ kvs, H m = some (.dK kvs) := by
  obtain ⟨l, sd, sp, cs, h1, _⟩ := M.ex
  exact ⟨_, h1⟩
theorem tabs_grow {T : List (Addr × Str)} {H H' : Hp} {m c : Addr} {n : Nat} (M : MOk H m c n) (g : Grow m H H') (t : Tabs T H) : Tabs T H' := by
  obtain ⟨kvs, hm⟩ := mok_dict M
  intro p hp
  obtain ⟨ps, h1, h2, h3⟩ := t p hp
  refine ⟨ps, g _ _ (ne_of h1 hm (by intro z; cases z)) h1, h2, fun pos cv hc => ?_⟩
  obtain ⟨c0, e1, e2⟩ := h3 pos cv hc
  exact ⟨c0, e1, g _ _ (ne_of e2 hm (by unfold CodeO; intro z; cases z)) e2⟩
theorem mok_ext {H H' : Hp} {m c : Addr} {n : Nat} (M : MOk H m c n) (g : ExtN H H') : MOk H' m c n := by
  obtain ⟨l, sd, sp, cs, h1, h2, r⟩ := M.ex
  exact ⟨l, sd, sp, cs, g _ _ h1 (by intro ps z; cases z), g _ _ h2 (by intro ps z; cases z), r⟩
theorem mok_same {H H' : Hp} {m c : Addr} {n : Nat} (M : MOk H m c n) (g : Same H H') : MOk H' m c n := by
  obtain ⟨l, sd, sp, cs, h1, h2, r⟩ := M.ex
  exact ⟨l, sd, sp, cs, g _ _ h1, g _ _ h2, r⟩
structure TxB (pr : Program) (K : PySem.W.Frag) (mg : Str → Option Value) (C fI CN fJ fB fG fN fM fD fO fW fV fA fS fL : Addr) (fdB fdG fdN fdM fdD fdO fdW fdV fdA fdS fdL : FuncData) : Prop where
  tp : TxP pr K mg C fI CN fJ fB fG fN fM fdB fdG fdN fdM
  to : TxO K mg fD fO fdD fdO
  wi : At K mg "with_gap" sWith ["plan", "number", "gap"] fW fdW
  wo : At K mg "without" sWo ["plan", "number"] fV fdV
  any : At K mg "_law_any" sAny ["m", "frame"] fA fdA
  said : At K mg "_law_said" sSaid ["call"] fS fdS
  isint : At K mg "_law_is_int" sIsInt ["thing", "least", "most"] fL fdL
  repr : mg "repr" = none
  ap : Apart K C CN
/-- the names of _law_bent_right -/
abbrev nB : List Str := ["m", "frame", "hands", "sheet", "kept", "due", "less", "turn", "item", "spot"]
theorem scBent : FnScope nB ["m", "frame"] (defScope sBent) := ⟨rfl, rfl, rfl, by decide +kernel, rfl, by decide +kernel, by decide +kernel⟩
def stB (i : Nat) : Stmt := (defBody sBent).getD i (.Pass ⟨0, 0, 0, 0⟩)
section
variable {P : Program} {w : World} {K : PySem.W.Frag} {mg : Str → Option Value} {base : Heap} {C fI CN fJ fB fG fN fM fD fO fW fV fA fS fL : Addr} {fdB fdG fdN fdM fdD fdO fdW fdV fdA fdS fdL : FuncData}
  {f : Addr} {cdv : Value} {A : Around} {outer : List Env} {s : Shared} {H : Hp} {E : XK}
abbrev cxB (P : Program) (w : World) (K : PySem.W.Frag) (mg : Str → Option Value) (base : Heap) (f : Addr) (cdv : Value) (A : Around) (outer : List Env) (s : Shared) (H : Hp) (E : XK) : Cx :=
  (cxOf CX0 P w K mg base nB "_law_bent_right" (defScope sBent) f cdv A outer s H E).nox
/-- what is due of with_gap -/
theorem part_due (T : TxB P K mg C fI CN fJ fB fG fN fM fD fO fW fV fA fS fL fdB fdG fdN fdM fdD fdO fdW fdV fdA fdS fdL) (hr : Room 1 (cxB P w K mg base f cdv A outer s H E).A) :
    ∃ t : TS, PS (cxB P w K mg base f cdv A outer s H E) (stB 3) t ∧ ∀ (D : Ends) (G : Hp) (m p q : Addr) (hi : Int) (gs : List Int) (vs vi kept due less turn : Option V) (xs xi : V) (ds di : PyData),
      Good hi gs → G q = some (.tup (gs.map V.int)) → Da G xs ds → Da G xi di →
      (∀ (r : V) (G' : Hp), Same G G' → Da G' r (wg hi gs ds di).said → D.nx [some (.ref m), some (.ref p), some (.int hi), some (.ref q), kept, some r, less, turn, some xi, some xs] G') →
      t D [some (.ref m), some (.ref p), some (.int hi), some (.ref q), kept, due, less, turn, some xi, some xs] G := by
  have GI : FnOk P w K mg base CX0 1 fL fdL ["thing", "least", "most"] spBet := ok_isint T.isint.F T.tp.tn.ti
  have nd := scBent.nd
  refine ⟨_, ps_if (pt_not (pt_val (pe_call GI hr rfl T.isint.g T.isint.F.kp T.isint.b .nil pass0 (pa_cons (pv 9) (pa_cons pe_int (pa_cons (pe_op op_sub (pe_callB call_len_seq (by rfl) T.tp.tn.len PySem.boot_len (pa_cons (pv 3) pa_nil)) pe_int) pa_nil))))))
    (pss_one (ps_set (i := 5) nd rfl (Or.inl rfl) (pe_tup (pa_cons pe_str (pa_cons (pv 9) pa_nil)))))
    (pss_one (ps_if (pt_not (pt_val (pe_call GI hr rfl T.isint.g T.isint.F.kp T.isint.b .nil pass0 (pa_cons (pv 8) (pa_cons pe_int (pa_cons (pe_op op_pow pe_int pe_int) pa_nil))))))
      (pss_one (ps_set (i := 5) nd rfl (Or.inl rfl) (pe_tup (pa_cons pe_str (pa_cons (pv 8) pa_nil)))))
      (pss_one (ps_set (i := 5) nd rfl (Or.inl rfl) (pe_lst (pa_cons (pe_tup (pa_cons (pv 2) (pa_cons (pe_op op_catM (pe_op op_catM (pe_slice sl_tupM (pv 3) po_none (po_some (pv 9))) (pe_tup (pa_cons (pv 8) pa_nil)))
        (pe_slice sl_tupM (pv 3) (po_some (pe_op op_add (pv 9) pe_int)) po_none)) pa_nil))) pa_nil)))))), ?_⟩
  intro D G m p q hi gs vs vi kept due less turn xs xi ds di Gd hq hs hxi k
  have two : (2 : Nat) ≤ sizeLine := by decide
  have ln : ((gs.map V.int).length : Int) = gs.length := by rw [List.length_map]
  refine ⟨_, rfl, _, rfl, q, _, rfl, .inr (SqT.of hq), _, _, rfl, rfl, xs, ds, 0, ((gs.map V.int).length : Int) - 1, rfl, hs, _, rfl, ?_⟩
  rw [ln]
  rcases hb : betw ds 0 ((gs.length : Int) - 1) with _ | _
  · refine iteT ⟨_, rfl, two, fun r hr => k _ _ (Same.new hr) ?_⟩
    have e : wg hi gs ds di = .num ds := by
      unfold wg
      rw [hb]
      rfl
    rw [e]
    exact .tup upd_same (.cons (.str _) (.cons ((Same.new hr).da hs) .nil))
  · refine iteF ⟨_, rfl, _, _, rfl, rfl, ⟨by decide, by decide, by decide⟩, xi, di, 1, bigGap, rfl, hxi, _, rfl, ?_⟩
    rcases hg : betw di 1 bigGap with _ | _
    · refine iteT ⟨_, rfl, two, fun r hr => k _ _ (Same.new hr) ?_⟩
      have e : wg hi gs ds di = .num di := by
        unfold wg
        rw [if_pos hb, hg]
        rfl
      rw [e]
      exact .tup upd_same (.cons (.str _) (.cons ((Same.new hr).da hxi) .nil))
    · obtain ⟨n, rfl, n0, n1⟩ := betw_int hb
      obtain rfl := Da.int_inv hs
      obtain ⟨i, rfl, i0, i1⟩ := betw_int hg
      obtain rfl := Da.int_inv hxi
      have e : wg hi gs (.int n) (.int i) = .ok (planD hi (gs.take n.toNat ++ [i] ++ gs.drop (n.toNat + 1))) := by
        unfold wg
        rw [if_pos hb, hg]
        rfl
      refine iteF ⟨_, rfl, ?_⟩
      refine rd_put (gs := gs) (b := q) (n := n) (x := i) rfl rfl rfl hq n0 n1 Gd.l8 fun p1 G1 s1 h1 => ⟨two, fun p2 h2 => ⟨(by show 1 ≤ sizeLine; decide), fun p3 h3 => ?_⟩⟩
      refine k _ _ ((s1.trans (Same.new h2)).trans (Same.new h3)) ?_
      rw [e]
      exact .lst upd_same (.cons ((Same.new h3).da (plan_da upd_same (Same.new h2 _ _ h1))) .nil)
/-- what is due of without -/
theorem part_less (T : TxB P K mg C fI CN fJ fB fG fN fM fD fO fW fV fA fS fL fdB fdG fdN fdM fdD fdO fdW fdV fdA fdS fdL) (hr : Room 1 (cxB P w K mg base f cdv A outer s H E).A) :
    ∃ t : TS, PS (cxB P w K mg base f cdv A outer s H E) (stB 5) t ∧ ∀ (D : Ends) (G : Hp) (m p q : Addr) (hi : Int) (gs : List Int) (kept due turn : Option V) (lv xs xi : V) (ds : PyData),
      Good hi gs → G q = some (.tup (gs.map V.int)) → Da G xs ds → Da G lv (.tuple [.str "number", ds]) →
      (∀ (r : V) (G' : Hp), Same G G' → Da G' r (wo hi gs ds).said → D.nx [some (.ref m), some (.ref p), some (.int hi), some (.ref q), kept, due, some r, turn, some xi, some xs] G') →
      t D [some (.ref m), some (.ref p), some (.int hi), some (.ref q), kept, due, some lv, turn, some xi, some xs] G := by
  have GI : FnOk P w K mg base CX0 1 fL fdL ["thing", "least", "most"] spBet := ok_isint T.isint.F T.tp.tn.ti
  have nd := scBent.nd
  refine ⟨_, ps_if (PW.pt (pw_and (pt_val (pe_call GI hr rfl T.isint.g T.isint.F.kp T.isint.b .nil pass0 (pa_cons (pv 9) (pa_cons pe_int (pa_cons (pe_op op_sub (pe_callB call_len_seq (by rfl) T.tp.tn.len PySem.boot_len (pa_cons (pv 3) pa_nil)) pe_int) pa_nil)))))
      (pw_and1 (pt_cmpR op_gt (pe_callB call_len_seq (by rfl) T.tp.tn.len PySem.boot_len (pa_cons (pv 3) pa_nil)) pe_int (nomark _)))))
    (pss_one (ps_set (i := 6) nd rfl (Or.inl rfl) (pe_lst (pa_cons (pe_tup (pa_cons (pv 2) (pa_cons (pe_op op_catM (pe_slice sl_tupM (pv 3) po_none (po_some (pv 9)))
        (pe_slice sl_tupM (pv 3) (po_some (pe_op op_add (pv 9) pe_int)) po_none)) pa_nil))) pa_nil)))) pss_nil, ?_⟩
  intro D G m p q hi gs kept due turn lv xs xi ds Gd hq hs hlv k
  have two : (2 : Nat) ≤ sizeLine := by decide
  have ln : ((gs.map V.int).length : Int) = gs.length := by rw [List.length_map]
  refine ⟨_, rfl, _, rfl, q, _, rfl, .inr (SqT.of hq), _, _, rfl, rfl, xs, ds, 0, ((gs.map V.int).length : Int) - 1, rfl, hs, _, rfl, ?_⟩
  rw [ln]
  have no : (wo hi gs ds) = .num ds → D.nx [some (.ref m), some (.ref p), some (.int hi), some (.ref q), kept, due, some lv, turn, some xi, some xs] G := fun e => k _ _ (Same.refl G) (by rw [e]; exact hlv)
  rcases hb : betw ds 0 ((gs.length : Int) - 1) with _ | _
  · refine iteF (no ?_)
    unfold wo
    rw [hb]
    rfl
  · refine iteT ⟨_, rfl, q, _, rfl, .inr (SqT.of hq), _, _, rfl, rfl, _, rfl, ?_⟩
    rw [ln]
    by_cases h1 : gs.length = 1
    · have d1 : decide (1 < (gs.length : Int)) = false := decide_eq_false (by omega)
      rw [d1]
      refine iteF (no ?_)
      unfold wo
      rw [if_pos hb, if_pos h1]
    · have d1 : decide (1 < (gs.length : Int)) = true := decide_eq_true (by have := Gd.l1; omega)
      rw [d1]
      obtain ⟨n, rfl, n0, n1⟩ := betw_int hb
      obtain rfl := Da.int_inv hs
      have e : wo hi gs (.int n) = .ok (planD hi (gs.take n.toNat ++ gs.drop (n.toNat + 1))) := by
        unfold wo
        rw [if_pos hb, if_neg h1]
        rfl
      refine iteT ⟨_, rfl, ?_⟩
      refine rd_cut (gs := gs) (b := q) (n := n) rfl rfl hq n0 n1 Gd.l8 fun p1 G1 s1 h1 => ⟨two, fun p2 h2 => ⟨(by show 1 ≤ sizeLine; decide), fun p3 h3 => ?_⟩⟩
      refine k _ _ ((s1.trans (Same.new h2)).trans (Same.new h3)) ?_
      rw [e]
      exact .lst upd_same (.cons ((Same.new h3).da (plan_da upd_same (Same.new h2 _ _ h1))) .nil)
end
end K2
set_option Elab.async false
set_option linter.all false
set_option maxRecDepth 100000
set_option maxHeartbeats 4000000
namespace K2
open PySem L2 Gd PySem.ExG LamX
set_option exponentiation.threshold 10000
def qB : Str := ("_law_bent_right" : Str) ++ ".<locals>." ++ "<lambda>"
theorem planD_inj {hi hi' : Int} {gs gs' : List Int} (h : planD hi gs = planD hi' gs') : hi' = hi ∧ gs' = gs := by
  unfold planD at h
  injection h with h
  injection h with h1 h2
  injection h1 with h1
  injection h2 with h2 _
  injection h2 with h2
  refine ⟨h1.symm, ?_⟩
  have inj : ∀ xs ys : List Int, xs.map PyData.int = ys.map PyData.int → ys = xs := by
    intro xs
    induction xs with
    | nil => intro ys e; cases ys with
      | nil => rfl
      | cons _ _ => cases e
    | cons x xs ih => intro ys e; cases ys with
      | nil => cases e
      | cons y ys =>
        injection e with e1 e2
        injection e1 with e1
        rw [ih ys e2, e1]
  exact inj gs gs' h2
theorem n300 {i : Int} (h0 : 0 ≤ i) (h1 : i ≤ bigGap) : i.natAbs < 2 ^ 300 :=
  Nat.lt_trans (abs_lt (k := 100) h0 (Int.lt_of_le_of_lt h1 big_lt)) (Nat.pow_lt_pow_right (by decide) (by decide))
theorem sm_planD {hi : Int} {gs : List Int} (h0 : hi.natAbs < 2 ^ 300) (hg : ∀ g ∈ gs, g.natAbs < 2 ^ 300) (hl : gs.length ≤ 20) : Sm 20000 2 (planD hi gs) := by
  have z1 : Sm 7000 1 (.tuple (gs.map .int)) := by
    have z := sm_tup (n := 310) (k := 0) (ds := gs.map .int) ⟨fun x hx => by
      obtain ⟨g, hgm, rfl⟩ := List.mem_map.mp hx
      exact sm_int3 (hg g hgm)⟩
    refine z.up ?_ (by decide)
    rw [List.length_map]
    omega
  have z := sm_tup (n := 7000) (k := 1) (ds := [.int hi, .tuple (gs.map .int)]) ⟨fun x hx => by
    simp only [List.mem_cons, List.not_mem_nil, or_false] at hx
    rcases hx with rfl | rfl
    · exact (sm_int3 h0).up (by decide) (by decide)
    · exact z1⟩
  exact z.up (by show 2 * 7002 + 3 ≤ 20000; decide) (by decide)
theorem sm_num {d : PyData} (h : Sm 700 3 d) : Sm 30000 5 (Rz.said (.num d)) := by
  have z := sm_tup (n := 700) (k := 3) (ds := [.str "number", d]) ⟨fun x hx => by
    simp only [List.mem_cons, List.not_mem_nil, or_false] at hx
    rcases hx with rfl | rfl
    · exact (sm_str (n := 8) (by decide +kernel)).up (by decide) (by decide)
    · exact h⟩
  exact z.up (by show 2 * 702 + 3 ≤ 30000; decide) (by decide)
theorem sm_ok {d : PyData} (h : Sm 20000 2 d) : Sm 30000 5 (Rz.said (.ok d)) := by
  have z := sm_lst (n := 20000) (k := 2) (ds := [d]) ⟨fun x hx => by
    simp only [List.mem_cons, List.not_mem_nil, or_false] at hx
    subst hx
    exact h⟩
  exact z.up (by show 1 * 20002 + 3 ≤ 30000; decide) (by decide)
theorem cut_all {gs : List Int} {hi : Int} (G : Good hi gs) {g : Int} {n : Nat} (h : g ∈ gs.take n ∨ g ∈ gs.drop (n + 1)) : g.natAbs < 2 ^ 300 := by
  have hg : g ∈ gs := h.elim List.mem_of_mem_take List.mem_of_mem_drop
  have := G.all g hg
  exact n300 (by omega) this.2
theorem sm_wg {hi : Int} {gs : List Int} {ds di : PyData} (G : Good hi gs) (h1 : Sm 700 3 ds) (h2 : Sm 700 3 di) : Sm 30000 5 (wg hi gs ds di).said := by
  unfold wg
  split
  · split
    · rename_i hb hg
      obtain ⟨i, rfl, i0, i1⟩ := betw_int hg
      refine sm_ok (sm_planD (n300 (by have := G.h1; omega) (Int.le_trans G.h3 (by decide))) (fun g hgm => ?_) ?_)
      · rcases List.mem_append.mp hgm with h | h
        · rcases List.mem_append.mp h with h | h
          · exact cut_all G (.inl h)
          · rw [List.mem_singleton.mp h]
            exact n300 (by show 0 ≤ i; omega) i1
        · exact cut_all G (.inr h)
      · rw [List.length_append, List.length_append]
        have a1 := List.length_take_le (iD ds).toNat gs
        have a2 := G.l8
        rw [List.length_drop]
        show _ + 1 + _ ≤ 20
        have a3 := List.length_take_le' (iD ds).toNat gs
        omega
    · exact sm_num h2
  · exact sm_num h1
theorem sm_wo {hi : Int} {gs : List Int} {ds : PyData} (G : Good hi gs) (h1 : Sm 700 3 ds) : Sm 30000 5 (wo hi gs ds).said := by
  unfold wo
  split
  · split
    · exact sm_num h1
    · refine sm_ok (sm_planD (n300 (by have := G.h1; omega) (Int.le_trans G.h3 (by decide))) (fun g hgm => ?_) ?_)
      · rcases List.mem_append.mp hgm with h | h
        · exact cut_all G (.inl h)
        · exact cut_all G (.inr h)
      · rw [List.length_append, List.length_drop]
        have a2 := G.l8
        have a3 := List.length_take_le' (iD ds).toNat gs
        omega
  · exact sm_num h1
theorem sm_three {hi : Int} {gs : List Int} {ds di : PyData} (G : Good hi gs) (h1 : Sm 700 3 ds) (h2 : Sm 700 3 di) : Sm 16000000 30 (.list [planD hi gs, ds, di]) := by
  have z0 : Sm 20000 3 (planD hi gs) := (sm_planD (n300 (by have := G.h1; omega) (Int.le_trans G.h3 (by decide))) (fun g hg => n300 (by have := G.all g hg; omega) (G.all g hg).2) (by have := G.l8; omega)).up (by decide) (by decide)
  have z := sm_lst (n := 20000) (k := 3) (ds := [planD hi gs, ds, di]) ⟨fun x hx => by
    simp only [List.mem_cons, List.not_mem_nil, or_false] at hx
    rcases hx with rfl | rfl | rfl
    · exact z0
    · exact h1.up (by decide) (by decide)
    · exact h2.up (by decide) (by decide)⟩
  exact z.up (by show 3 * 20002 + 3 ≤ 16000000; decide) (by decide)
section
variable {P : Program} {w : World} {K : PySem.W.Frag} {mg : Str → Option Value} {base : Heap} {C fI CN fJ fB fG fN fM fD fO fW fV fA fS fL : Addr} {fdB fdG fdN fdM fdD fdO fdW fdV fdA fdS fdL : FuncData}
  {f c PB : Addr} {A : Around} {outer : List Env} {s : Shared} {H : Hp} {E : XK} {Ts : List (Addr × Str)}
theorem qual_B : (cxB P w K mg base f (.ref c) A outer s H E).env.qual ++ "<lambda>" = qB := rfl
/-- repr(_law_said(lambda: with_gap(frame, spot, item))) and such -/
theorem part_loop (T : TxB P K mg C fI CN fJ fB fG fN fM fD fO fW fV fA fS fL fdB fdG fdN fdM fdD fdO fdW fdV fdA fdS fdL) (hr : Room 7 (cxB P w K mg base f (.ref c) A outer s H E).A)
    (gA : A.guards = some []) (hb : ∃ o, base.get? sysModules = some o) (TB : TabB base mg c PB) (hm : (PB, qB) ∈ Ts) (hu : ∀ p ∈ Ts, p.1 = PB → p.2 = qB) :
    ∃ t6 t7 : TS, PS (cxB P w K mg base f (.ref c) A outer s H E) (stB 6) t6 ∧ PS (cxB P w K mg base f (.ref c) A outer s H E) (stB 7) t7 ∧
      ∀ (D : Ends) (G : Hp) (m p q : Addr) (hi : Int) (gs : List Int) (turn : Option V) (d1 d2 xs xi : V) (ds di : PyData),
      Good hi gs → G p = some (.tup [.int hi, .ref q]) → G q = some (.tup (gs.map V.int)) → Da G xs ds → Da G xi di → Da G d1 (wg hi gs ds di).said → Da G d2 (wo hi gs ds).said → Sm 700 3 ds → Sm 700 3 di → Tabs Ts G →
      (∀ (G' : Hp), ExtN G G' → Tabs Ts G' → D.rt (.bl true) G') →
      t6 { D with nx := fun σ' G' => t7 D σ' G' } [some (.ref m), some (.ref p), some (.int hi), some (.ref q), some (.str (PyData.list [planD hi gs, ds, di]).shown), some d1, some d2, turn, some xi, some xs] G := by
  have GW : FnOk P w K mg base (L2.CX P w) 5 fW fdW ["plan", "number", "gap"] (spWith C CN) := ok_with T.wi.F T.tp
  have GV : FnOk P w K mg base (L2.CX P w) 5 fV fdV ["plan", "number"] (spWo C CN) := ok_wo T.wo.F T.tp
  have nd := scBent.nd
  obtain ⟨oc, od, kV, doc, pm, an, cdv, ct, osl, rfl, lk, hcd⟩ := T.said.F.ex
  have SG := said_gives (X := cxB P w K mg base f (.ref c) A outer s H E) (g := fS) (cdv := cdv) (q := qB) T.tp T.ap
  refine ⟨_, _, ps_for PassesOwn.never rfl (pi_range1 rfl T.to.range (pa_cons pe_int pa_nil)) (pg_name (i := 7) nd rfl (Or.inl rfl))
      (pss_cons (ps_if (pt_cmpR op_ne (pe_callB (call_repr gA hr.units hb) (by rfl) T.repr (by decide +kernel) (pa_cons
            (pe_lamcall (T := Ts) (TT := TTs C CN) (k := 5) (t := fun E => tCallS (spWith C CN) (WE fun cls d _ H => E cls d H) (tCons (tVar 1) (tCons (tVar 9) (tCons (tVar 8) tNil)))) rfl T.said.g T.said.F.kp lk hcd T.said.b scSaid rfl (.inl rfl) SG TB rfl hm hu hr
              (lamS_by (sc := defScope sBent) (by decide +kernel)) rfl (fun _ _ _ _ _ => rfl)
              (fun A outer s H E f c' hr5 => by exact (pe_callS GW hr5 rfl T.wi.g T.wi.F.kp T.wi.b (fun σ => passAt (takes_of rfl rfl rfl rfl) σ) (by exact (pa_cons (pv 1) (pa_cons (pv 9) (pa_cons (pv 8) pa_nil))))))) pa_nil))
          (pe_callB (call_repr gA hr.units hb) (by rfl) T.repr (by decide +kernel) (pa_cons (pv 5) pa_nil)) (nomark _)) (pss_one (ps_ret pe_bl)) pss_nil)
      (pss_one (ps_if (pt_cmpR op_ne (pe_callB (call_repr gA hr.units hb) (by rfl) T.repr (by decide +kernel) (pa_cons
            (pe_lamcall (T := Ts) (TT := TTs C CN) (k := 5) (t := fun E => tCallS (spWo C CN) (WE fun cls d _ H => E cls d H) (tCons (tVar 1) (tCons (tVar 9) tNil))) rfl T.said.g T.said.F.kp lk hcd T.said.b scSaid rfl (.inl rfl) SG TB rfl hm hu hr
              (lamS_by (sc := defScope sBent) (by decide +kernel)) rfl (fun _ _ _ _ _ => rfl)
              (fun A outer s H E f c' hr5 => by exact (pe_callS GV hr5 rfl T.wo.g T.wo.F.kp T.wo.b (fun σ => passAt (takes_of rfl rfl rfl rfl) σ) (by exact (pa_cons (pv 1) (pa_cons (pv 9) pa_nil)))))) pa_nil))
          (pe_callB (call_repr gA hr.units hb) (by rfl) T.repr (by decide +kernel) (pa_cons (pv 6) pa_nil)) (nomark _)) (pss_one (ps_ret pe_bl)) pss_nil))),
    ps_ret (pe_cmpR op_eq (pe_callB (call_repr gA hr.units hb) (by rfl) T.repr (by decide +kernel) (pa_cons (pe_lst (pa_cons (pv 1) (pa_cons (pv 9) (pa_cons (pv 8) pa_nil)))) pa_nil)) (pv 4) (nomark _)), ?_⟩
  intro D G m p q hi gs turn d1 d2 xs xi ds di Gd hp hq hs hxi h1 h2 sm1 sm2 tb k
  have smw : Sm 16000000 30 (wg hi gs ds di).said := (sm_wg Gd sm1 sm2).up (by decide) (by decide)
  have smo : Sm 16000000 30 (wo hi gs ds).said := (sm_wo Gd sm1).up (by decide) (by decide)
  have fr : Da G (.ref p) (planD hi gs) := plan_da hp hq
  refine ⟨2, rfl, by decide, by decide, for_range (n := 2) (fun i σ G' => ∃ tn : Option V, σ = [some (.ref m), some (.ref p), some (.int hi), some (.ref q), some (.str (PyData.list [planD hi gs, ds, di]).shown), some d1, some d2, tn, some xi, some xs] ∧ ExtN G G' ∧ Tabs Ts G') ⟨turn, rfl, ExtN.refl G, tb⟩ ?_ ?_⟩
  · rintro i σ G1 hi1 ⟨tn, rfl, e1, t1⟩
    refine ⟨t1, fun G2 e2 t2 => ⟨wg hi gs ds di, fun Qc Ec out => ?_, fun r G3 s3 hr3 => ?_⟩⟩
    · refine ⟨_, rfl, _, rfl, _, rfl, .ref p, xs, xi, planD hi gs, ds, di, rfl, fr.ext (e1.trans e2), hs.ext (e1.trans e2), hxi.ext (e1.trans e2), fun pl hpl => absurd (Gd.plc.symm.trans hpl) (by intro z; cases z), fun hi' gs' he _ => ?_⟩
      obtain ⟨rfl, rfl⟩ := planD_inj he
      exact out
    · have e3 : ExtN G G3 := e1.trans (e2.trans (ExtN.of s3))
      refine ⟨_, _, rfl, hr3, smw, ?_⟩
      refine ⟨_, rfl, _, _, rfl, h1.ext e3, smw, rfl, _, rfl, ?_⟩
      refine iteNS rfl ?_
      refine ⟨t2.ext s3, fun G4 e4 t4 => ⟨wo hi gs ds, fun Qc Ec out => ?_, fun r2 G5 s5 hr5 => ?_⟩⟩
      · refine ⟨_, rfl, _, rfl, .ref p, xs, planD hi gs, ds, rfl, fr.ext (e3.trans e4), hs.ext (e3.trans e4), fun pl hpl => absurd (Gd.plc.symm.trans hpl) (by intro z; cases z), fun hi' gs' he _ => ?_⟩
        obtain ⟨rfl, rfl⟩ := planD_inj he
        exact out
      · have e5 : ExtN G G5 := e3.trans (e4.trans (ExtN.of s5))
        refine ⟨_, _, rfl, hr5, smo, ?_⟩
        refine ⟨_, rfl, _, _, rfl, h2.ext e5, smo, rfl, _, rfl, ?_⟩
        refine iteNS rfl ?_
        exact ⟨_, rfl, e5, t4.ext s5⟩
  · rintro σ G1 ⟨tn, rfl, e1, t1⟩
    refine ⟨_, rfl, _, rfl, _, rfl, (by show 3 ≤ sizeLine; decide), fun r hr1 => ?_⟩
    refine ⟨_, _, rfl, .lst upd_same (.cons ((Same.new hr1).da (fr.ext e1)) (.cons ((Same.new hr1).da (hs.ext e1)) (.cons ((Same.new hr1).da (hxi.ext e1)) .nil))), sm_three Gd sm1 sm2, ?_⟩
    refine ⟨_, rfl, rfl, ?_⟩
    rw [decide_eq_true rfl]
    exact k _ (e1.trans (ExtN.of (Same.new hr1))) (t1.ext (Same.new hr1))
end
end K2
set_option Elab.async false
set_option linter.all false
set_option maxRecDepth 100000
set_option maxHeartbeats 4000000
namespace K2
open PySem L2 Gd PySem.ExG LamX
set_option exponentiation.threshold 10000
/-- _law_bent_right(m, frame): True -/
def spBR (Ts : List (Addr × Str)) : Sp := fun vs H Q _ => ∃ (m cl : Addr) (n : Nat) (v : V) (hi : Int) (gs : List Int), vs = [.ref m, v] ∧ MOk H m cl n ∧ n ≤ 70000 ∧ Frm H v hi gs ∧ Tabs Ts H ∧
  ∀ (H' : Hp), MOk H' m cl (n + 4) → GrowN m H H' → Tabs Ts H' → Q (.bl true) H'
section
variable {P : Program} {w : World} {K : PySem.W.Frag} {mg : Str → Option Value} {base : Heap} {C fI CN fJ fB fG fN fM fD fO fW fV fA fS fL : Addr} {fdB fdG fdN fdM fdD fdO fdW fdV fdA fdS fdL : FuncData}
  {c PB : Addr} {Ts : List (Addr × Str)}
theorem ok_bent {f : Addr} {oc kV doc pm ct : Value} {od an : Option Addr} {osl : Array (Option Value)} (lk : K.lookup f = some ⟨oc, od, .func (PySem.W.fnOf "_law_bent_right" "_law_bent_right" (defArgs sBent) (defBody sBent) (defScope sBent) .none kV doc pm an (.ref c) ct), osl⟩)
    (hcd : PySem.W.codeIn K (.ref c) "_law_bent_right" = true) (T : TxB P K mg C fI CN fJ fB fG fN fM fD fO fW fV fA fS fL fdB fdG fdN fdM fdD fdO fdW fdV fdA fdS fdL) (hb : ∃ o, base.get? sysModules = some o)
    (TB : TabB base mg c PB) (hm : (PB, qB) ∈ Ts) (hu : ∀ p ∈ Ts, p.1 = PB → p.2 = qB) :
    FnG P w K mg base CX0 8 f (PySem.W.fnOf "_law_bent_right" "_law_bent_right" (defArgs sBent) (defBody sBent) (defScope sBent) .none kV doc pm an (.ref c) ct) ["m", "frame"] (spBR Ts) := by
  have GA : FnOk P w K mg base CX0 3 fA fdA ["m", "frame"] spAny := ok_any T.any.F T.to
  refine fnG_of lk hcd scBent (fun vs H Q E h => ?_) (fun A outer s H vs Q E gA hr h => ?_)
  · obtain ⟨m, cl, n, v, hi, gs, rfl, _⟩ := h
    rfl
  · obtain ⟨m, cl, n, v, hi, gs, rfl, M, hn, ⟨Gd, p, q, rfl, hp, hq⟩, tb, k⟩ := h
    have nd := scBent.nd
    have hr3 : Room 3 _ := hr.mono (by decide)
    have hr1 : Room 1 _ := hr.mono (by decide)
    obtain ⟨t3, p3, r3⟩ := part_due (w := w) (base := base) (f := f) (cdv := .ref c) (A := A) (outer := outer) (s := s) (H := H) (E := E) T hr1
    obtain ⟨t5, p5, r5⟩ := part_less (w := w) (base := base) (f := f) (cdv := .ref c) (A := A) (outer := outer) (s := s) (H := H) (E := E) T hr1
    obtain ⟨t6, t7, p6, p7, r6⟩ := part_loop (w := w) (base := base) (f := f) (A := A) (outer := outer) (s := s) (H := H) (E := E) T hr gA hb TB hm hu
    refine ⟨_, PSs.nox (pss_cons (ps_asg (pv 1) (pg_tup (by rfl) (pgs_cons (pg_name (i := 2) nd rfl (.inl rfl)) (pgs_cons (pg_name (i := 3) nd rfl (.inl rfl)) pgs_nil))))
      (pss_cons (ps_asg (pe_tup (pa_cons (pe_call GA hr3 rfl T.any.g T.any.F.kp T.any.b .nil pass0 (pa_cons (pv 0) (pa_cons (pv 1) pa_nil))) (pa_cons (pe_call GA hr3 rfl T.any.g T.any.F.kp T.any.b .nil pass0 (pa_cons (pv 0) (pa_cons (pv 1) pa_nil))) pa_nil)))
          (pg_tup (by rfl) (pgs_cons (pg_name (i := 9) nd rfl (.inr rfl)) (pgs_cons (pg_name (i := 8) nd rfl (.inr rfl)) pgs_nil))))
      (pss_cons (ps_set (i := 4) nd rfl (Or.inl rfl) (pe_callB (call_repr gA hr.units hb) (by rfl) T.repr (by decide +kernel) (pa_cons (pe_lst (pa_cons (pv 1) (pa_cons (pv 9) (pa_cons (pv 8) pa_nil)))) pa_nil)))
      (pss_cons p3
      (pss_cons (ps_set (i := 6) nd rfl (Or.inl rfl) (pe_tup (pa_cons pe_str (pa_cons (pv 9) pa_nil))))
      (pss_cons p5
      (pss_cons p6
      (pss_one p7)))))))), ?_⟩
    have hpm := M.neT hp
    have hqm := M.neT hq
    refine ⟨_, rfl, p, _, rfl, SqT.of hp, rfl, _, _, rfl, _, _, rfl, rfl, ?_⟩
    refine ⟨_, rfl, _, rfl, m, cl, n, .ref p, hi, gs, rfl, M, by omega, ⟨Gd, p, q, rfl, hp, hq⟩, fun xs H1 th1 M1 g1 => ?_⟩
    have hp1 := g1 _ _ hpm hp
    have hq1 := g1 _ _ hqm hq
    refine ⟨_, rfl, _, rfl, m, cl, n + 2, .ref p, hi, gs, rfl, M1, by omega, ⟨Gd, p, q, rfl, hp1, hq1⟩, fun xi H2 th2 M2 g2 => ?_⟩
    have hp2 := g2 _ _ hpm hp1
    have hq2 := g2 _ _ hqm hq1
    obtain ⟨ds, da1, sm1⟩ := th1.grow g2
    obtain ⟨di, da2, sm2⟩ := th2
    have db1 : Da H2 xs ds := da1.mono off_sub
    have db2 : Da H2 xi di := da2.mono off_sub
    have sm1' : Sm 700 3 ds := sm1.up (by decide) (by decide)
    have sm2' : Sm 700 3 di := sm2.up (by decide) (by decide)
    have tb2 : Tabs Ts H2 := tabs_grow M1 g2 (tabs_grow M g1 tb)
    refine ⟨(by show 2 ≤ sizeLine; decide), fun pr hpr => ?_⟩
    refine ⟨pr, _, rfl, SqT.of upd_same, rfl, _, _, rfl, _, _, rfl, rfl, ?_⟩
    have s3 := Same.new (o := .tup [xs, xi]) hpr
    refine ⟨_, rfl, _, rfl, _, rfl, (by show 3 ≤ sizeLine; decide), fun r hr1 => ?_⟩
    have s4 := s3.trans (Same.new (o := .lst [.ref p, xs, xi]) hr1)
    refine ⟨_, _, rfl, .lst upd_same (.cons ((Same.new hr1).da (s3.da (plan_da hp2 hq2))) (.cons (s4.da db1) (.cons (s4.da db2) .nil))), sm_three Gd sm1' sm2', ?_⟩
    refine r3 _ _ m p q hi gs none none (some (.str (PyData.list [planD hi gs, ds, di]).shown)) none none none xs xi ds di Gd (s4 _ _ hq2) (s4.da db1) (s4.da db2) fun d1 G1 e1 hd1 => ?_
    have s5 := s4.trans e1
    refine ⟨_, rfl, (by show 2 ≤ sizeLine; decide), fun pl hpl => ?_⟩
    have s6 := s5.trans (Same.new (o := .tup [.str "number", xs]) hpl)
    refine r5 _ _ m p q hi gs (some (.str (PyData.list [planD hi gs, ds, di]).shown)) (some d1) none (.ref pl) xs xi ds Gd (s6 _ _ hq2) (s6.da db1) (.tup upd_same (.cons (.str _) (.cons (s6.da db1) .nil))) fun d2 G2 e2 hd2 => ?_
    have s7 := s6.trans e2
    refine r6 _ _ m p q hi gs none d1 d2 xs xi ds di Gd (s7 _ _ hp2) (s7 _ _ hq2) (s7.da db1) (s7.da db2) (((Same.new hpl).trans e2).da hd1) hd2 sm1' sm2' (tb2.ext s7) fun G' e3 t3' => ?_
    exact k G' (mok_ext (mok_same M2 s7) e3) ((Grow.toN g1).trans ((Grow.toN g2).trans (((sG s7).toN).trans (e3.toN m)))) t3'
end
end K2
set_option Elab.async false
set_option linter.all false
set_option maxRecDepth 100000
set_option maxHeartbeats 4000000
/-! readings that evaluate to data, from any heap beyond a first one -/
namespace Gd
open PySem L2
def Tv (H0 : Hp) (σ : L2.St) (t : TE) (d : PyData) : Prop := ∀ (H : Hp) (Q : VK), Same H0 H → (∀ v H', Same H H' → Da H' v d → Q v H') → t σ H Q
def Ta (H0 : Hp) (σ : L2.St) (t : TA) (ds : List PyData) : Prop := ∀ (H : Hp) (Q : List V → Hp → Prop), Same H0 H → (∀ vs H', Same H H' → DaL H' vs ds → Q vs H') → t σ H Q
theorem sdl {H H' : Hp} {vs : List V} {ds : List PyData} (e : Same H H') (h : DaL H vs ds) : DaL H' vs ds := h.mono e
section
variable {H0 : Hp} {σ : L2.St}
theorem tv_int (i : Int) : Tv H0 σ (tC (.int i)) (.int i) := fun H Q _ k => k _ H (Same.refl H) (.int i)
theorem tv_bl (b : Bool) : Tv H0 σ (tC (.bl b)) (.bool b) := fun H Q _ k => k _ H (Same.refl H) (.bl b)
theorem tv_str (x : Str) : Tv H0 σ (tC (.str x)) (.str x) := fun H Q _ k => k _ H (Same.refl H) (.str x)
theorem tv_non : Tv H0 σ (tC .non) .none := fun H Q _ k => k _ H (Same.refl H) .non
theorem tv_var {i : Nat} {v : V} {d : PyData} (e : σ[i]? = some (some v)) (h : Da H0 v d) : Tv H0 σ (tVar i) d := fun H Q s k => ⟨v, e, k _ H (Same.refl H) (h.mono s)⟩
theorem ta_nil : Ta H0 σ tNil [] := fun H Q _ k => k _ H (Same.refl H) .nil
theorem ta_cons {t : TE} {d : PyData} {ts : TA} {ds : List PyData} (h : Tv H0 σ t d) (hs : Ta H0 σ ts ds) : Ta H0 σ (tCons t ts) (d :: ds) := fun H Q s k =>
  h H _ s fun v H1 s1 h1 => hs H1 _ (s.trans s1) fun vs H2 s2 h2 => k (v :: vs) H2 (s1.trans s2) (.cons (h1.mono s2) h2)
theorem upd_same_of {H : Hp} {p : Addr} {o : HO} (h : H p = none) : Same H (upd H p o) := fun b u e => by rw [upd_ne (ne_of_none e h)]; exact e
theorem tv_tup {ta : TA} {ds : List PyData} (h : Ta H0 σ ta ds) (hl : ds.length ≤ 5000) : Tv H0 σ (tTup ta) (.tuple ds) := fun H Q s k =>
  h H _ s fun vs H1 s1 h1 => ⟨Nat.le_trans (h1.length ▸ hl) (by rw [sizeLine_eq]; decide), fun p hp => k _ _ (s1.trans (upd_same_of hp)) (.tup upd_same (sdl (upd_same_of hp) h1))⟩
theorem tv_lst {ta : TA} {ds : List PyData} (h : Ta H0 σ ta ds) (hl : ds.length ≤ 5000) : Tv H0 σ (tLst ta) (.list ds) := fun H Q s k =>
  h H _ s fun vs H1 s1 h1 => ⟨Nat.le_trans (h1.length ▸ hl) (by rw [sizeLine_eq]; decide), fun p hp => k _ _ (s1.trans (upd_same_of hp)) (.lst upd_same (sdl (upd_same_of hp) h1))⟩
theorem DaL.append {H : Hp} : ∀ {xs ys : List V} {ds es : List PyData}, DaL H xs ds → DaL H ys es → DaL H (xs ++ ys) (ds ++ es)
  | _, _, _, _, .nil, h => h
  | _, _, _, _, .cons h r, g => .cons h (DaL.append r g)
theorem DaL.rep {H : Hp} {xs : List V} {ds : List PyData} (h : DaL H xs ds) : ∀ n : Nat, DaL H (List.replicate n xs).flatten (List.replicate n ds).flatten
  | 0 => .nil
  | n + 1 => by
    rw [List.replicate_succ, List.replicate_succ, List.flatten_cons, List.flatten_cons]
    exact DaL.append h (DaL.rep h n)
theorem tv_cat {t u : TE} {ds es : List PyData} (h : Tv H0 σ t (.list ds)) (g : Tv H0 σ u (.list es)) (hl : ds.length + es.length ≤ 5000) : Tv H0 σ (tOp rCat t u) (.list (ds ++ es)) := fun H Q s k =>
  h H _ s fun v H1 s1 h1 => g H1 _ (s.trans s1) fun z H2 s2 h2 => by
    have h1' := h1.mono s2
    cases h1' with
    | lst e1 r1 =>
      cases h2 with
      | lst e2 r2 =>
        refine ⟨_, _, _, _, rfl, rfl, e1, e2, ?_, fun p hp => ?_⟩
        · rw [r1.length, r2.length]
          exact Nat.le_trans hl (by rw [sizeLine_eq]; decide)
        · exact k _ _ (s1.trans (s2.trans (upd_same_of hp))) (.lst upd_same (sdl (upd_same_of hp) (DaL.append r1 r2)))
/-- t * k, k a number -/
theorem tv_repT {K : PySem.W.Frag} {t : TE} {n : Int} {ds : List PyData} (h : Tv H0 σ t (.tuple ds)) (h0 : ds ≠ []) (h1 : 2 ≤ n) (h2 : n ≤ 1000) (hl : ds.length ≤ 1000) : Tv H0 σ (tOp (rRepT K) t (tC (.int n))) (.tuple (List.replicate n.toNat ds).flatten) := fun H Q s k =>
  h H _ s fun v H1 s1 h1' => by
    cases h1' with
    | tup e1 r1 =>
      refine ⟨_, n, _, rfl, rfl, SqT.of e1, ?_, h1, h2, ?_, fun p hp => ?_⟩
      · intro z
        subst z
        cases r1
        exact h0 rfl
      · rw [r1.length]
        exact hl
      · exact k _ _ (s1.trans (upd_same_of hp)) (.tup upd_same (sdl (upd_same_of hp) (DaL.rep r1 _)))
/-- t * k, k a number, t a list -/
theorem tv_rep {t : TE} {n : Int} {ds : List PyData} (h : Tv H0 σ t (.list ds)) (h1 : 0 ≤ n) (h2 : n ≤ 1000) (hl : ds.length * n.toNat ≤ 5000) : Tv H0 σ (tOp rRep t (tC (.int n))) (.list (List.replicate n.toNat ds).flatten) := fun H Q s k =>
  h H _ s fun v H1 s1 h1' => by
    cases h1' with
    | lst e1 r1 =>
      refine ⟨_, n, _, rfl, rfl, e1, by omega, by omega, ?_, fun p hp => ?_⟩
      · rw [r1.length]
        exact Nat.le_trans hl (by rw [sizeLine_eq]; decide)
      · exact k _ _ (s1.trans (upd_same_of hp)) (.lst upd_same (sdl (upd_same_of hp) (DaL.rep r1 _)))
/-- an operation on two ints -/
theorem tv_op0 {g : Int → Int → Int} {t u : TE} {i j : Int} (h : Tv H0 σ t (.int i)) (h' : Tv H0 σ u (.int j)) : Tv H0 σ (tOp (rI0 fun i j => .int (g i j)) t u) (.int (g i j)) := fun H Q s k =>
  h H _ s fun v H1 s1 h1 => h' H1 _ (s.trans s1) fun z H2 s2 h2 => by
    cases h1
    cases h2
    exact ⟨i, j, rfl, rfl, k _ _ (s1.trans s2) (.int _)⟩
theorem tv_pow {t u : TE} {i j : Int} (h : Tv H0 σ t (.int i)) (h' : Tv H0 σ u (.int j)) (c : CPow i j) : Tv H0 σ (tOp (rI CPow fun i j => .int (i ^ j.toNat)) t u) (.int (i ^ j.toNat)) := fun H Q s k =>
  h H _ s fun v H1 s1 h1 => h' H1 _ (s.trans s1) fun z H2 s2 h2 => by
    cases h1
    cases h2
    exact ⟨i, j, rfl, rfl, c, k _ _ (s1.trans s2) (.int _)⟩
theorem tv_neg (i : Int) : Tv H0 σ (tUn (rU fun i => .int (-i)) (tC (.int i))) (.int (-i)) := fun H Q s k => ⟨i, rfl, k _ H (Same.refl H) (.int _)⟩
theorem tv_set {t : TE} {d : PyData} {i : Nat} {u : TS} {D : Ends} {H : Hp} (h : Tv H0 σ t d) (s : Same H0 H) (k : ∀ v H', Same H H' → Da H' v d → u D (σ.set i (some v)) H') : tSeq (tAsg t (gName i)) u D σ H :=
  h H _ s fun v H' s' d' => k v H' s' d'
end
end Gd
set_option Elab.async false
set_option linter.all false
set_option maxRecDepth 100000
set_option maxHeartbeats 4000000
namespace Gd
open PySem L2
/-- no dict in it -/
def noDict : PyData → Bool
  | .dict _ => false
  | .list xs => go xs
  | .tuple xs => go xs
  | _ => true
where go : List PyData → Bool
  | [] => true
  | x :: xs => noDict x && go xs
mutual
theorem da_dp2 {K : PySem.W.Frag} {H : Hp} : ∀ {v : V} {d : PyData}, Da H v d → noDict d = true → Dp K H v d
  | _, _, .non, _ => .non
  | _, _, .bl b, _ => .bl b
  | _, _, .int i, _ => .int i
  | _, _, .str x, _ => .str x
  | _, _, .lst h r, f => .lst (SqL.of h) (dal_dp2 r (by simpa only [noDict] using f))
  | _, _, .tup h r, f => .tup (SqT.of h) (dal_dp2 r (by simpa only [noDict] using f))
  | _, _, .dic h r, f => by simp [noDict] at f
theorem dal_dp2 {K : PySem.W.Frag} {H : Hp} : ∀ {vs : List V} {ds : List PyData}, DaL H vs ds → noDict.go ds = true → DpAll K H vs ds
  | _, _, .nil, _ => .nil
  | _, _, .cons h r, q => by
    rw [noDict.go, Bool.and_eq_true] at q
    exact .cons (da_dp2 h q.1) (dal_dp2 r q.2)
end
def plain (d : PyData) : Bool := noDict d && SeqAt.shaped d
/-- t != u of data -/
theorem tne {K : PySem.W.Frag} {H0 H : Hp} {σ : L2.St} {t u : TE} {d e : PyData} {b : Bool} {Q : Bool → Hp → Prop} (h : Tv H0 σ t d) (g : Tv H0 σ u e) (c1 : plain d = true) (c2 : plain e = true) (hb : PyData.eqv d e = b) (s : Same H0 H)
    (k : ∀ H', Same H H' → Q (!b) H') : tTest (tOp (rNeD K) t u) σ H Q := by
  subst hb
  unfold plain at c1 c2
  rw [Bool.and_eq_true] at c1 c2
  exact h H _ s fun v H1 s1 h1 => g H1 _ (s.trans s1) fun z H2 s2 h2 => ⟨d, e, da_dp2 (s2.da h1) c1.1, da_dp2 h2 c2.1, c1.2, c2.2, _, rfl, k _ (s1.trans s2)⟩
/-- ** of great numbers -/
def CPowW (i j : Int) : Prop := 0 ≤ j ∧ (Builtin.Int.intBits i : Int) * j ≤ 2 ^ 27
theorem op_powW {X : Cx} : OpR X (binaryOp .Pow) (rI CPowW fun i j => .int (i ^ j.toNat)) := opI fun _ _ _ _ _ _ _ hc q => PyProof.Rows.pow_int hc.1 hc.2 q
theorem tv_opC {H0 : Hp} {σ : L2.St} {C : Int → Int → Prop} {g : Int → Int → Int} {t u : TE} {i j : Int} (h : Tv H0 σ t (.int i)) (h' : Tv H0 σ u (.int j)) (c : C i j) : Tv H0 σ (tOp (rI C fun i j => .int (g i j)) t u) (.int (g i j)) := fun H Q s k =>
  h H _ s fun v H1 s1 h1 => h' H1 _ (s.trans s1) fun z H2 s2 h2 => by
    cases h1
    cases h2
    exact ⟨i, j, rfl, rfl, c, k _ _ (s1.trans s2) (.int _)⟩
/-- a call whose promise gives data -/
theorem tv_call {H0 : Hp} {σ : L2.St} {sp : Sp} {E : XK} {t : TA} {ds : List PyData} {e : PyData} (h : Ta H0 σ t ds)
    (hs : ∀ (vs : List V) (H : Hp) (Q : VK), DaL H vs ds → (∀ r H', Same H H' → Da H' r e → Q r H') → sp (vs ++ []) H Q E) : Tv H0 σ (tCall sp [] E t) e := fun H Q s k =>
  h H _ s fun vs H1 s1 h1 => hs vs H1 Q h1 fun r H' s' hd => k r H' (s1.trans s') hd
theorem tv_callS {H0 : Hp} {σ : L2.St} {sp : Sp} {E : St → XK} {t : TA} {ds : List PyData} {e : PyData} (h : Ta H0 σ t ds)
    (hs : ∀ (vs : List V) (H : Hp) (Q : VK), DaL H vs ds → (∀ r H', Same H H' → Da H' r e → Q r H') → sp vs H Q (E σ)) : Tv H0 σ (tCallS sp E t) e := fun H Q s k =>
  h H _ s fun vs H1 s1 h1 => hs vs H1 Q h1 fun r H' s' hd => k r H' (s1.trans s') hd
theorem DaL.one {H : Hp} {vs : List V} {d : PyData} (h : DaL H vs [d]) : ∃ v, vs = [v] ∧ Da H v d := by
  cases h with
  | cons a r => cases r; exact ⟨_, rfl, a⟩
theorem DaL.two {H : Hp} {vs : List V} {d e : PyData} (h : DaL H vs [d, e]) : ∃ v u, vs = [v, u] ∧ Da H v d ∧ Da H u e := by
  cases h with
  | cons a r => obtain ⟨u, rfl, b⟩ := r.one; exact ⟨_, u, rfl, a, b⟩
theorem DaL.three {H : Hp} {vs : List V} {d e f : PyData} (h : DaL H vs [d, e, f]) : ∃ v u w, vs = [v, u, w] ∧ Da H v d ∧ Da H u e ∧ Da H w f := by
  cases h with
  | cons a r => obtain ⟨u, w, rfl, b, c⟩ := r.two; exact ⟨_, u, w, rfl, a, b, c⟩
theorem Tv.up {H0 H1 : Hp} {σ : L2.St} {t : TE} {d : PyData} (h : Tv H0 σ t d) (s : Same H0 H1) : Tv H1 σ t d := fun H Q s' k => h H Q (s.trans s') k
end Gd
namespace K2
open PySem L2 Gd PySem.ExG LamX
set_option exponentiation.threshold 10000
theorem Out.up {C CN : Addr} {z : Rz} {H H' : Hp} {Q : VK} {E : XK} (o : Out C CN z H Q E) (s : Same H H') : Out C CN z H' Q E := by
  cases z with
  | ok d => exact fun r H2 s2 hd => o r H2 (s.trans s2) hd
  | num d => exact fun v dd H2 s2 hx hd => o v dd H2 (s.trans s2) hx hd
  | pla p => exact fun v dd H2 s2 hx hd => o v dd H2 (s.trans s2) hx hd
/-- what with_gap, without make of any thing as a plan -/
def zr (d : PyData) (z : Int → List Int → Rz) : Rz := match plc d with
  | some p => .pla p
  | none => match d with
    | .tuple [.int hi, .tuple gs] => z hi (gs.map iD)
    | _ => .pla []
theorem map_iD : ∀ gs : List Int, (gs.map PyData.int).map iD = gs
  | [] => rfl
  | g :: r => by
    rw [List.map_cons, List.map_cons, map_iD r]
    rfl
theorem outs_of {C CN : Addr} {d : PyData} {z : Int → List Int → Rz} {H : Hp} {Q : VK} {E : XK} (o : Out C CN (zr d z) H Q E) : Outs C CN d z H Q E := by
  refine ⟨fun p hp => ?_, fun hi gs he G => ?_⟩
  · unfold zr at o
    rw [hp] at o
    exact o
  · subst he
    unfold zr at o
    rw [G.plc] at o
    unfold planD at o
    simp only [map_iD] at o
    exact o
section
variable {H0 : Hp} {σ : L2.St} {C CN : Addr}
theorem tv_share {E : XK} {t : TA} {hi : Int} {gs : List Int} (h : Ta H0 σ t [planD hi gs]) (G : Good hi gs) : Tv H0 σ (tCall spShare [] E t) (.tuple [.int (low (shOf gs)).1, .int (low (shOf gs)).2]) :=
  tv_call h fun vs H Q hd k => by
    obtain ⟨v, rfl, hv⟩ := hd.one
    exact ⟨v, hi, gs, rfl, hv, G, k⟩
theorem tv_many {E : XK} {t : TA} {hi : Int} {gs : List Int} (h : Ta H0 σ t [planD hi gs]) (G : Good hi gs) : Tv H0 σ (tCall spMany [] E t) (.int (prodOf gs)) :=
  tv_call h fun vs H Q hd k => by
    obtain ⟨v, rfl, hv⟩ := hd.one
    exact ⟨v, hi, gs, rfl, hv, G, fun H' s => k _ H' s (.int _)⟩
theorem rd_with {E : St → XK} {t : TA} {d dn di : PyData} {H : Hp} {Q : VK} (h : Ta H0 σ t [d, dn, di]) (s : Same H0 H) (o : Out C CN (zr d fun hi gs => wg hi gs dn di) H Q (E σ)) : tCallS (spWith C CN) E t σ H Q :=
  h H _ s fun vs H1 s1 h1 => by
    obtain ⟨a, b, c, rfl, ha, hb, hc⟩ := h1.three
    exact ⟨a, b, c, d, dn, di, rfl, ha, hb, hc, outs_of (o.up s1)⟩
theorem rd_wo {E : St → XK} {t : TA} {d dn : PyData} {H : Hp} {Q : VK} (h : Ta H0 σ t [d, dn]) (s : Same H0 H) (o : Out C CN (zr d fun hi gs => wo hi gs dn) H Q (E σ)) : tCallS (spWo C CN) E t σ H Q :=
  h H _ s fun vs H1 s1 h1 => by
    obtain ⟨a, b, rfl, ha, hb⟩ := h1.two
    exact ⟨a, b, d, dn, rfl, ha, hb, outs_of (o.up s1)⟩
theorem tv_with {E : St → XK} {t : TA} {d dn di e : PyData} (h : Ta H0 σ t [d, dn, di]) (he : zr d (fun hi gs => wg hi gs dn di) = .ok e) : Tv H0 σ (tCallS (spWith C CN) E t) e := fun H Q s k =>
  rd_with h s (by rw [he]; exact fun r H' s' hd => k r H' s' hd)
theorem tv_wo {E : St → XK} {t : TA} {d dn e : PyData} (h : Ta H0 σ t [d, dn]) (he : zr d (fun hi gs => wo hi gs dn) = .ok e) : Tv H0 σ (tCallS (spWo C CN) E t) e := fun H Q s k =>
  rd_wo h s (by rw [he]; exact fun r H' s' hd => k r H' s' hd)
/-- _law_said of a lambda -/
theorem rd_said {Ts : List (Addr × Str)} {t : XK → TE} {z : Rz} {H : Hp} {Q : VK} (tb : Tabs Ts H) (ht : ∀ (H1 : Hp) (Qc : VK) (Ec : XK), Out C CN z H1 Qc Ec → t Ec σ H1 Qc)
    (k : ∀ r H', ExtN H H' → Tabs Ts H' → Da H' r z.said → Q r H') : tLam Ts (TTs C CN) t σ H Q :=
  ⟨tb, fun H1 e1 t1 => ⟨z, fun Qc Ec o => ht H1 Qc Ec o, fun r H' s hd => k r H' (e1.trans (ExtN.of s)) (t1.ext s) hd⟩⟩
end
end K2
set_option Elab.async false
set_option linter.all false
set_option maxRecDepth 100000
set_option maxHeartbeats 4000000
namespace K2
open PySem L2 Gd PySem.ExG LamX
set_option exponentiation.threshold 10000
def qL : Str := ("law" : Str) ++ ".<locals>." ++ "<lambda>"
structure TxW (pr : Program) (K : PySem.W.Frag) (mg : Str → Option Value) (C fI CN fJ fB fG fN fM fD fO fW fV fA fS fL fSh fMa fBg fLo fSu fPr fDr : Addr) (fdB fdG fdN fdM fdD fdO fdW fdV fdA fdS fdL fdSh fdMa fdBg fdLo fdSu fdPr fdDr : FuncData) : Prop where
  tb : TxB pr K mg C fI CN fJ fB fG fN fM fD fO fW fV fA fS fL fdB fdG fdN fdM fdD fdO fdW fdV fdA fdS fdL
  share : At K mg "share_of" sShare ["plan"] fSh fdSh
  many : At K mg "how_many" sMany ["plan"] fMa fdMa
  begun : At K mg "_law_begun" sBegun ["script", "k"] fBg fdBg
  tl : TxL K mg fLo fdLo
  sum : At K mg "_law_sum" sSum ["sheet"] fSu fdSu
  prod : At K mg "_law_product" sProd ["sheet"] fPr fdPr
  drawn : At K mg "_law_drawn" sDrawn ["m"] fDr fdDr
  min : mg "min" = none
abbrev nL : List Str := ["script", "most", "told_so", "k", "m", "turn", "frame", "again"]
theorem scLaw : FnScope nL ["script"] (defScope sLaw) := ⟨rfl, rfl, rfl, by decide +kernel, rfl, by decide +kernel, by decide +kernel⟩
def stL (i : Nat) : Stmt := (defBody sLaw).getD i (.Pass ⟨0, 0, 0, 0⟩)
section
variable {P : Program} {w : World} {K : PySem.W.Frag} {mg : Str → Option Value} {base : Heap} {C fI CN fJ fB fG fN fM fD fO fW fV fA fS fL fSh fMa fBg fLo fSu fPr fDr : Addr} {fdB fdG fdN fdM fdD fdO fdW fdV fdA fdS fdL fdSh fdMa fdBg fdLo fdSu fdPr fdDr : FuncData}
  {f c PL : Addr} {A : Around} {outer : List Env} {s : Shared} {H : Hp} {E : XK} {Ts : List (Addr × Str)}
abbrev cxL (P : Program) (w : World) (K : PySem.W.Frag) (mg : Str → Option Value) (base : Heap) (f : Addr) (cdv : Value) (A : Around) (outer : List Env) (s : Shared) (H : Hp) (E : XK) : Cx :=
  (cxOf CX0 P w K mg base nL "law" (defScope sLaw) f cdv A outer s H E).nox
def most : Int := 10 ^ (30 : Int).toNat
theorem gd1 : Good 2 [2, 3, 6] := ⟨by decide, by decide, by decide, by decide, by decide +kernel⟩
theorem gd2 : Good 1 [1, 1, 1, 1, 1, 1, 1, 1] := ⟨by decide, by decide, by decide, by decide, by decide +kernel⟩
theorem gd3 : Good 1 [most, most] := ⟨by decide, by decide, by decide, by decide, by decide +kernel⟩
theorem gd4 : Good 3 [2, 3] := ⟨by decide, by decide, by decide, by decide, by decide +kernel⟩
theorem gd5 : Good 1 [most, most, most, most, most, most, most, most] := ⟨by decide, by decide, by decide, by decide, by decide +kernel⟩
def shD (gs : List Int) : PyData := .tuple [.int (low (shOf gs)).1, .int (low (shOf gs)).2]
def toldA : PyData := .list [shD [2, 3, 6], shD [1, 1, 1, 1, 1, 1, 1, 1], shD [most, most], shD [2, 3]]
def wantA : PyData := .list [.tuple [.int 1, .int 1], .tuple [.int 8, .int 1], .tuple [.int 1, .int (most / 2)], .tuple [.int 5, .int 6]]
theorem eqA : PyData.eqv toldA wantA = true := by decide +kernel
theorem plA : plain toldA = true := by decide +kernel
theorem plA' : plain wantA = true := by decide +kernel
theorem eqM : PyData.eqv (.int (prodOf [most, most, most, most, most, most, most, most])) (.int ((most * most) ^ (4 : Int).toNat)) = true := by decide +kernel
theorem plM : plain (.int (prodOf [most, most, most, most, most, most, most, most])) = true := by decide +kernel
theorem plM' : plain (.int ((most * most) ^ (4 : Int).toNat)) = true := by decide +kernel
/-- most; the shares and sizes by hand -/
theorem part_a (T : TxW P K mg C fI CN fJ fB fG fN fM fD fO fW fV fA fS fL fSh fMa fBg fLo fSu fPr fDr fdB fdG fdN fdM fdD fdO fdW fdV fdA fdS fdL fdSh fdMa fdBg fdLo fdSu fdPr fdDr) (hr : Room 8 (cxL P w K mg base f (.ref c) A outer s H E).A) :
    ∃ t0 t1 t2 : TS, PS (cxL P w K mg base f (.ref c) A outer s H E) (stL 0) t0 ∧ PS (cxL P w K mg base f (.ref c) A outer s H E) (stL 1) t1 ∧ PS (cxL P w K mg base f (.ref c) A outer s H E) (stL 2) t2 ∧
      ∀ (D : Ends) (G : Hp) (a : Addr) (u : TS), (∀ (v : V) (G' : Hp), Same G G' → u D [some (.ref a), some (.int most), some v, none, none, none, none, none] G') →
      tSeq t0 (tSeq t1 (tSeq t2 u)) D [some (.ref a), none, none, none, none, none, none, none] G := by
  have GS : FnOk P w K mg base CX0 5 fSh fdSh ["plan"] spShare := ok_share T.share.F T.tb.tp
  have GM : FnOk P w K mg base CX0 5 fMa fdMa ["plan"] spMany := ok_many T.many.F T.tb.tp
  have hr5 : Room 5 (cxL P w K mg base f (.ref c) A outer s H E).A := hr.mono (by decide)
  have nd := scLaw.nd
  refine ⟨_, _, _, ps_set (i := 1) nd rfl (Or.inl rfl) (pe_op op_pow pe_int pe_int),
    ps_set (i := 2) nd rfl (Or.inl rfl) (pe_lst (pa_cons (pe_call GS hr5 rfl T.share.g T.share.F.kp T.share.b .nil pass0 (pa_cons (pe_tup (pa_cons pe_int (pa_cons (pe_tup (pa_cons pe_int (pa_cons pe_int (pa_cons pe_int pa_nil)))) pa_nil))) pa_nil))
      (pa_cons (pe_call GS hr5 rfl T.share.g T.share.F.kp T.share.b .nil pass0 (pa_cons (pe_tup (pa_cons pe_int (pa_cons (pe_op op_repT (pe_tup (pa_cons pe_int pa_nil)) pe_int) pa_nil))) pa_nil))
      (pa_cons (pe_call GS hr5 rfl T.share.g T.share.F.kp T.share.b .nil pass0 (pa_cons (pe_tup (pa_cons pe_int (pa_cons (pe_tup (pa_cons (pv 1) (pa_cons (pv 1) pa_nil))) pa_nil))) pa_nil))
      (pa_cons (pe_call GS hr5 rfl T.share.g T.share.F.kp T.share.b .nil pass0 (pa_cons (pe_tup (pa_cons pe_int (pa_cons (pe_tup (pa_cons pe_int (pa_cons pe_int pa_nil))) pa_nil))) pa_nil)) pa_nil))))),
    ps_if (PW.pt (pw_or (pt_cmpR (op_neD hr.units) (pv 2) (pe_lst (pa_cons (pe_tup (pa_cons pe_int (pa_cons pe_int pa_nil))) (pa_cons (pe_tup (pa_cons pe_int (pa_cons pe_int pa_nil))) (pa_cons (pe_tup (pa_cons pe_int (pa_cons (pe_op op_fdivW (pv 1) pe_int) pa_nil))) (pa_cons (pe_tup (pa_cons pe_int (pa_cons pe_int pa_nil))) pa_nil))))) (nomark _))
      (pw_or1 (pt_cmpR (op_neD hr.units) (pe_call GM hr5 rfl T.many.g T.many.F.kp T.many.b .nil pass0 (pa_cons (pe_tup (pa_cons pe_int (pa_cons (pe_op op_repT (pe_tup (pa_cons (pv 1) pa_nil)) pe_int) pa_nil))) pa_nil)) (pe_op op_powW (pe_op op_mulW (pv 1) (pv 1)) pe_int) (nomark _)))))
      (pss_one (ps_ret pe_bl)) pss_nil, ?_⟩
  intro D G a u k
  refine tv_set (H0 := G) (tv_pow (tv_int _) (tv_int _) ⟨by decide, by decide, by decide⟩) (Same.refl G) fun v0 H0 s0 d0 => ?_
  cases d0
  have hm : ∀ G : Hp, Da G (.int most) (.int most) := fun G => .int _
  refine tv_set (d := toldA) (H0 := H0) (tv_lst (ta_cons (tv_share (hi := 2) (gs := [2, 3, 6]) (ta_cons (tv_tup (ta_cons (tv_int _) (ta_cons (tv_tup (ta_cons (tv_int _) (ta_cons (tv_int _) (ta_cons (tv_int _) ta_nil))) (by decide)) ta_nil)) (by decide)) ta_nil) gd1)
    (ta_cons (tv_share (hi := 1) (gs := [1, 1, 1, 1, 1, 1, 1, 1]) (ta_cons (tv_tup (ta_cons (tv_int _) (ta_cons (tv_repT (tv_tup (ta_cons (tv_int _) ta_nil) (by decide)) (by simp) (by decide) (by decide) (by decide)) ta_nil)) (by decide)) ta_nil) gd2)
    (ta_cons (tv_share (hi := 1) (gs := [most, most]) (ta_cons (tv_tup (ta_cons (tv_int _) (ta_cons (tv_tup (ta_cons (tv_var rfl (hm _)) (ta_cons (tv_var rfl (hm _)) ta_nil)) (by decide)) ta_nil)) (by decide)) ta_nil) gd3)
    (ta_cons (tv_share (hi := 3) (gs := [2, 3]) (ta_cons (tv_tup (ta_cons (tv_int _) (ta_cons (tv_tup (ta_cons (tv_int _) (ta_cons (tv_int _) ta_nil)) (by decide)) ta_nil)) (by decide)) ta_nil) gd4) ta_nil)))) (by decide)) (Same.refl _) fun v1 H1 s1 d1 => ?_
  refine tne (d := toldA) (e := wantA) (H0 := H1) (tv_var rfl d1) (tv_lst (ta_cons (tv_tup (ta_cons (tv_int _) (ta_cons (tv_int _) ta_nil)) (by decide)) (ta_cons (tv_tup (ta_cons (tv_int _) (ta_cons (tv_int _) ta_nil)) (by decide)) (ta_cons (tv_tup (ta_cons (tv_int _) (ta_cons (tv_opC (tv_var rfl (hm _)) (tv_int _) (wide_div (b := 2) (by decide) (by decide) (by decide) (by decide))) ta_nil)) (by decide)) (ta_cons (tv_tup (ta_cons (tv_int _) (ta_cons (tv_int _) ta_nil)) (by decide)) ta_nil)))) (by decide)) plA plA' eqA (Same.refl _) fun H2 s2 => ?_
  refine iteF ?_
  refine tne (H0 := H2) (tv_many (hi := 1) (gs := [most, most, most, most, most, most, most, most]) (ta_cons (tv_tup (ta_cons (tv_int _) (ta_cons (tv_repT (tv_tup (ta_cons (tv_var rfl (hm _)) ta_nil) (by decide)) (by simp) (by decide) (by decide) (by decide)) ta_nil)) (by decide)) ta_nil) gd5)
    (tv_opC (tv_opC (g := fun i j => i * j) (tv_var rfl (hm _)) (tv_var rfl (hm _)) (wide_mul (a := 100) (b := 100) (by decide +kernel) (by decide +kernel) (by decide) (by decide) (by decide))) (tv_int _) ⟨by decide, by decide +kernel⟩) plM plM' eqM (Same.refl _) fun H3 s3 => ?_
  refine iteF ?_
  exact k v1 H3 (s0.trans (s1.trans (s2.trans s3)))
end
end K2
set_option Elab.async false
set_option linter.all false
set_option maxRecDepth 100000
set_option maxHeartbeats 4000000
namespace K2
open PySem L2 Gd PySem.ExG LamX
set_option exponentiation.threshold 10000
theorem qual_L {P : Program} {w : World} {K : PySem.W.Frag} {mg : Str → Option Value} {base : Heap} {f c : Addr} {A : Around} {outer : List Env} {s : Shared} {H : Hp} {E : XK} : (cxL P w K mg base f (.ref c) A outer s H E).env.qual ++ "<lambda>" = qL := rfl
def rzB : List Rz := [.pla [0], .num (.int 5), .num (.int 0), .num (.int 0)]
def wantB : PyData := .list [.tuple [.str "plan", .tuple [.int 0]], .tuple [.str "number", .int 5], .tuple [.str "number", .int 0], .tuple [.str "number", .int 0]]
theorem eqB : PyData.eqv (.list (rzB.map Rz.said)) wantB = true := by decide +kernel
theorem plB : plain (.list (rzB.map Rz.said)) = true := by decide +kernel
theorem plB' : plain wantB = true := by decide +kernel
section
variable {P : Program} {w : World} {K : PySem.W.Frag} {mg : Str → Option Value} {base : Heap} {C fI CN fJ fB fG fN fM fD fO fW fV fA fS fL fSh fMa fBg fLo fSu fPr fDr : Addr} {fdB fdG fdN fdM fdD fdO fdW fdV fdA fdS fdL fdSh fdMa fdBg fdLo fdSu fdPr fdDr : FuncData}
  {f c PL : Addr} {A : Around} {outer : List Env} {s : Shared} {H : Hp} {E : XK} {Ts : List (Addr × Str)}
/-- what is refused, by hand -/
theorem part_b (T : TxW P K mg C fI CN fJ fB fG fN fM fD fO fW fV fA fS fL fSh fMa fBg fLo fSu fPr fDr fdB fdG fdN fdM fdD fdO fdW fdV fdA fdS fdL fdSh fdMa fdBg fdLo fdSu fdPr fdDr) (hr : Room 8 (cxL P w K mg base f (.ref c) A outer s H E).A)
    (TB : TabB base mg c PL) (hm : (PL, qL) ∈ Ts) (hu : ∀ p ∈ Ts, p.1 = PL → p.2 = qL) :
    ∃ t3 t4 t5 : TS, PS (cxL P w K mg base f (.ref c) A outer s H E) (stL 3) t3 ∧ PS (cxL P w K mg base f (.ref c) A outer s H E) (stL 4) t4 ∧ PS (cxL P w K mg base f (.ref c) A outer s H E) (stL 5) t5 ∧
      ∀ (D : Ends) (G : Hp) (a : Addr) (v : V) (u : TS), Tabs Ts G → (∀ (v : V) (G' : Hp), ExtN G G' → Tabs Ts G' → u D [some (.ref a), some (.int most), some v, none, none, none, none, none] G') →
      tSeq t3 (tSeq t4 (tSeq t5 u)) D [some (.ref a), some (.int most), some v, none, none, none, none, none] G := by
  have GW : FnOk P w K mg base (L2.CX P w) 5 fW fdW ["plan", "number", "gap"] (spWith C CN) := ok_with T.tb.wi.F T.tb.tp
  have GV : FnOk P w K mg base (L2.CX P w) 5 fV fdV ["plan", "number"] (spWo C CN) := ok_wo T.tb.wo.F T.tb.tp
  have hr7 : Room 7 (cxL P w K mg base f (.ref c) A outer s H E).A := hr.mono (by decide)
  have hr5' : Room 5 (cxL P w K mg base f (.ref c) A outer s H E).A := hr.mono (by decide)
  have nd := scLaw.nd
  obtain ⟨oc, od, kV, doc, pm, an, cdv, ct, osl, rfl, lk, hcd⟩ := T.tb.said.F.ex
  have SG := said_gives (X := cxL P w K mg base f (.ref c) A outer s H E) (g := fS) (cdv := cdv) (q := qL) T.tb.tp T.tb.ap
  refine ⟨_, _, _, ps_set (i := 2) nd rfl (Or.inl rfl) (pe_lst (pa_cons (pe_lamcall (T := Ts) (TT := TTs C CN) (k := 5) (t := fun E => tCallS (spWith C CN) (WE fun cls d _ H => E cls d H) (tCons (tTup (tCons (tC (.int 0)) (tCons (tTup (tCons (tC (.int 1)) tNil)) tNil))) (tCons (tC (.int 5)) (tCons (tC (.int 0)) tNil)))) rfl T.tb.said.g T.tb.said.F.kp lk hcd T.tb.said.b scSaid rfl (.inl rfl) SG TB rfl hm hu hr7
        (lamS_by (sc := defScope sLaw) (by decide +kernel)) rfl (fun _ _ _ _ _ => rfl)
        (fun A outer s H E f c' hr5 => by exact (pe_callS GW hr5 rfl T.tb.wi.g T.tb.wi.F.kp T.tb.wi.b (fun σ => passAt (takes_of rfl rfl rfl rfl) σ) (by exact (pa_cons (pe_tup (pa_cons pe_int (pa_cons (pe_tup (pa_cons pe_int pa_nil)) pa_nil))) (pa_cons pe_int (pa_cons pe_int pa_nil)))))))
      (pa_cons (pe_lamcallD (T := Ts) (TT := TTs C CN) (k := 5) (i0 := 0) (bs := fun t => [("x", .int 0 t)]) (t := fun E => tCallS (spWith C CN) (WE fun cls d _ H => E cls d H) (tCons (tTup (tCons (tC (.int 1)) (tCons (tTup (tCons (tC (.int 1)) tNil)) tNil))) (tCons (tC (.int 5)) (tCons (tC (.int 0)) tNil)))) rfl T.tb.said.g T.tb.said.F.kp lk hcd T.tb.said.b scSaid rfl (.inl rfl) SG TB rfl hm hu hr7
        (lamD_by (N := nL) (sc := defScope sLaw) (by decide +kernel)) rfl rfl (fun s T0 t doc pm cv ctv h => .of_defaults (items := #[.int 0 t]) rfl h rfl rfl rfl) (fun t y hy => by rw [List.mem_singleton.mp hy]; rfl)
        (fun A outer s H E f c' hr5 => by exact (pe_callS GW hr5 rfl T.tb.wi.g T.tb.wi.F.kp T.tb.wi.b (fun σ => passAt (takes_of rfl rfl rfl rfl) σ) (by exact (pa_cons (pe_tup (pa_cons pe_int (pa_cons (pe_tup (pa_cons pe_int pa_nil)) pa_nil))) (pa_cons pe_int (pa_cons pe_int pa_nil))))))) pa_nil))),
    ps_set (i := 2) nd rfl (Or.inl rfl) (pe_op op_cat (pv 2) (pe_lst (pa_cons (pe_lamcall (T := Ts) (TT := TTs C CN) (k := 5) (t := fun E => tCallS (spWith C CN) (WE fun cls d _ H => E cls d H) (tCons (tTup (tCons (tC (.int 1)) (tCons (tTup (tCons (tC (.int 1)) tNil)) tNil))) (tCons (tC (.int 0)) (tCons (tC (.int 0)) tNil)))) rfl T.tb.said.g T.tb.said.F.kp lk hcd T.tb.said.b scSaid rfl (.inl rfl) SG TB rfl hm hu hr7
        (lamS_by (sc := defScope sLaw) (by decide +kernel)) rfl (fun _ _ _ _ _ => rfl)
        (fun A outer s H E f c' hr5 => by exact (pe_callS GW hr5 rfl T.tb.wi.g T.tb.wi.F.kp T.tb.wi.b (fun σ => passAt (takes_of rfl rfl rfl rfl) σ) (by exact (pa_cons (pe_tup (pa_cons pe_int (pa_cons (pe_tup (pa_cons pe_int pa_nil)) pa_nil))) (pa_cons pe_int (pa_cons pe_int pa_nil)))))))
      (pa_cons (pe_lamcallD (T := Ts) (TT := TTs C CN) (k := 5) (i0 := 0) (bs := fun t => [("x", .int 0 t)]) (t := fun E => tCallS (spWo C CN) (WE fun cls d _ H => E cls d H) (tCons (tTup (tCons (tC (.int 1)) (tCons (tTup (tCons (tC (.int 4)) tNil)) tNil))) (tCons (tC (.int 0)) tNil))) rfl T.tb.said.g T.tb.said.F.kp lk hcd T.tb.said.b scSaid rfl (.inl rfl) SG TB rfl hm hu hr7
        (lamD_by (N := nL) (sc := defScope sLaw) (by decide +kernel)) rfl rfl (fun s T0 t doc pm cv ctv h => .of_defaults (items := #[.int 0 t]) rfl h rfl rfl rfl) (fun t y hy => by rw [List.mem_singleton.mp hy]; rfl)
        (fun A outer s H E f c' hr5 => by exact (pe_callS GV hr5 rfl T.tb.wo.g T.tb.wo.F.kp T.tb.wo.b (fun σ => passAt (takes_of rfl rfl rfl rfl) σ) (by exact (pa_cons (pe_tup (pa_cons pe_int (pa_cons (pe_tup (pa_cons pe_int pa_nil)) pa_nil))) (pa_cons pe_int pa_nil)))))) pa_nil)))),
    ps_if (pt_cmpR (op_neD hr.units) (pv 2) (pe_lst (pa_cons (pe_tup (pa_cons pe_str (pa_cons (pe_tup (pa_cons pe_int pa_nil)) pa_nil))) (pa_cons (pe_tup (pa_cons pe_str (pa_cons pe_int pa_nil))) (pa_cons (pe_tup (pa_cons pe_str (pa_cons pe_int pa_nil))) (pa_cons (pe_tup (pa_cons pe_str (pa_cons pe_int pa_nil))) pa_nil))))) (nomark _)) (pss_one (ps_ret pe_bl)) pss_nil, ?_⟩
  intro D G a v u tb0 k
  refine rd_said (z := .pla [0]) tb0 (fun H' Qc Ec o => rd_with (H0 := H') (ta_cons (tv_tup (ta_cons (tv_int _) (ta_cons (tv_tup (ta_cons (tv_int _) ta_nil) (by decide)) ta_nil)) (by decide)) (ta_cons (tv_int _) (ta_cons (tv_int _) ta_nil))) (Same.refl _) o) fun r1 H1 e1 tb1 d1 => ?_
  refine rd_said (z := .num (.int 5)) tb1 (fun H' Qc Ec o => rd_with (H0 := H') (ta_cons (tv_tup (ta_cons (tv_int _) (ta_cons (tv_tup (ta_cons (tv_int _) ta_nil) (by decide)) ta_nil)) (by decide)) (ta_cons (tv_int _) (ta_cons (tv_int _) ta_nil))) (Same.refl _) o) fun r2 H2 e2 tb2 d2 => ?_
  refine ⟨(by show 2 ≤ sizeLine; decide), fun p1 hp1 => ?_⟩
  have s1 := Same.new (o := .lst [r1, r2]) hp1
  have tb3 := tb2.ext s1
  refine ⟨_, rfl, ?_⟩
  refine rd_said (z := .num (.int 0)) tb3 (fun H' Qc Ec o => rd_with (H0 := H') (ta_cons (tv_tup (ta_cons (tv_int _) (ta_cons (tv_tup (ta_cons (tv_int _) ta_nil) (by decide)) ta_nil)) (by decide)) (ta_cons (tv_int _) (ta_cons (tv_int _) ta_nil))) (Same.refl _) o) fun r4 H4 e4 tb4 d4 => ?_
  refine rd_said (z := .num (.int 0)) tb4 (fun H' Qc Ec o => rd_wo (H0 := H') (ta_cons (tv_tup (ta_cons (tv_int _) (ta_cons (tv_tup (ta_cons (tv_int _) ta_nil) (by decide)) ta_nil)) (by decide)) (ta_cons (tv_int _) ta_nil)) (Same.refl _) o) fun r5 H5 e5 tb5 d5 => ?_
  refine ⟨(by show 2 ≤ sizeLine; decide), fun p2 hp2 => ?_⟩
  have s2 := Same.new (o := .lst [r4, r5]) hp2
  have e45 : ExtN (upd H2 p1 (.lst [r1, r2])) H5 := e4.trans e5
  refine ⟨p1, p2, _, _, rfl, rfl, s2 _ _ (e45 _ _ upd_same (by intro ps z; cases z)), upd_same, (by show 4 ≤ sizeLine; decide), fun p3 hp3 => ?_⟩
  have s3 := Same.new (o := .lst ([r1, r2] ++ [r4, r5])) hp3
  have e25 : ExtN H2 H5 := (ExtN.of s1).trans e45
  have dl : Da (upd (upd H5 p2 (.lst [r4, r5])) p3 (.lst ([r1, r2] ++ [r4, r5]))) (.ref p3) (.list (rzB.map Rz.said)) :=
    .lst upd_same (.cons (s3.da (s2.da ((d1.ext e2).ext e25))) (.cons (s3.da (s2.da (d2.ext e25))) (.cons (s3.da (s2.da (d4.ext e5))) (.cons (s3.da (s2.da d5)) .nil))))
  refine tne (d := .list (rzB.map Rz.said)) (e := wantB) (tv_var rfl dl) (tv_lst (ta_cons (tv_tup (ta_cons (tv_str _) (ta_cons (tv_tup (ta_cons (tv_int _) ta_nil) (by decide)) ta_nil)) (by decide)) (ta_cons (tv_tup (ta_cons (tv_str _) (ta_cons (tv_int _) ta_nil)) (by decide)) (ta_cons (tv_tup (ta_cons (tv_str _) (ta_cons (tv_int _) ta_nil)) (by decide)) (ta_cons (tv_tup (ta_cons (tv_str _) (ta_cons (tv_int _) ta_nil)) (by decide)) ta_nil)))) (by decide)) plB plB' eqB (Same.refl _) fun H6 s6 => ?_
  refine iteF ?_
  exact k _ H6 ((e1.trans e2).trans (e25.trans ((ExtN.of s2).trans ((ExtN.of s3).trans (ExtN.of s6))))) ((((tb5.ext s2).ext s3)).ext s6)
end
end K2
set_option Elab.async false
set_option linter.all false
set_option maxRecDepth 100000
set_option maxHeartbeats 4000000
namespace K2
open PySem L2 Gd PySem.ExG LamX
set_option exponentiation.threshold 10000
theorem zr1 : zr (planD 2 [5, 6, 7]) (fun hi gs => wg hi gs (.int 0) (.int 9)) = .ok (planD 2 [9, 6, 7]) := by rfl
theorem zr2 : zr (planD 2 [5, 6, 7]) (fun hi gs => wg hi gs (.int 2) (.int most)) = .ok (planD 2 [5, 6, most]) := by rfl
theorem zr3 : zr (planD 2 [5, 5, 5, 5, 5, 5, 5, 5]) (fun hi gs => wo hi gs (.int 7)) = .ok (planD 2 [5, 5, 5, 5, 5, 5, 5]) := by rfl
theorem zr4 : zr (.tuple [.int 1, .tuple []]) (fun hi gs => wo hi gs (.int 9)) = .pla [1] := by rfl
theorem eqv_self1 : PyData.eqv (planD 2 [9, 6, 7]) (planD 2 [9, 6, 7]) = true := by decide +kernel
theorem eqv_self2 : PyData.eqv (planD 2 [5, 6, most]) (planD 2 [5, 6, most]) = true := by decide +kernel
theorem eqv_self3 : PyData.eqv (planD 2 [5, 5, 5, 5, 5, 5, 5]) (planD 2 [5, 5, 5, 5, 5, 5, 5]) = true := by decide +kernel
section
variable {P : Program} {w : World} {K : PySem.W.Frag} {mg : Str → Option Value} {base : Heap} {C fI CN fJ fB fG fN fM fD fO fW fV fA fS fL fSh fMa fBg fLo fSu fPr fDr : Addr} {fdB fdG fdN fdM fdD fdO fdW fdV fdA fdS fdL fdSh fdMa fdBg fdLo fdSu fdPr fdDr : FuncData}
  {f c PL : Addr} {A : Around} {outer : List Env} {s : Shared} {H : Hp} {E : XK} {Ts : List (Addr × Str)}
theorem part_c (T : TxW P K mg C fI CN fJ fB fG fN fM fD fO fW fV fA fS fL fSh fMa fBg fLo fSu fPr fDr fdB fdG fdN fdM fdD fdO fdW fdV fdA fdS fdL fdSh fdMa fdBg fdLo fdSu fdPr fdDr) (hr : Room 8 (cxL P w K mg base f (.ref c) A outer s H E).A)
    (TB : TabB base mg c PL) (hm : (PL, qL) ∈ Ts) (hu : ∀ p ∈ Ts, p.1 = PL → p.2 = qL) :
    ∃ t6 t7 : TS, PS (cxL P w K mg base f (.ref c) A outer s H E) (stL 6) t6 ∧ PS (cxL P w K mg base f (.ref c) A outer s H E) (stL 7) t7 ∧
      ∀ (D : Ends) (G : Hp) (a : Addr) (v : V) (u : TS), Tabs Ts G → (∀ (G' : Hp), ExtN G G' → Tabs Ts G' → u D [some (.ref a), some (.int most), some v, none, none, none, none, none] G') →
      tSeq t6 (tSeq t7 u) D [some (.ref a), some (.int most), some v, none, none, none, none, none] G := by
  have GW : FnOk P w K mg base (L2.CX P w) 5 fW fdW ["plan", "number", "gap"] (spWith C CN) := ok_with T.tb.wi.F T.tb.tp
  have GV : FnOk P w K mg base (L2.CX P w) 5 fV fdV ["plan", "number"] (spWo C CN) := ok_wo T.tb.wo.F T.tb.tp
  have hr7 : Room 7 (cxL P w K mg base f (.ref c) A outer s H E).A := hr.mono (by decide)
  have hr5' : Room 5 (cxL P w K mg base f (.ref c) A outer s H E).A := hr.mono (by decide)
  have nd := scLaw.nd
  obtain ⟨oc, od, kV, doc, pm, an, cdv, ct, osl, rfl, lk, hcd⟩ := T.tb.said.F.ex
  have SG := said_gives (X := cxL P w K mg base f (.ref c) A outer s H E) (g := fS) (cdv := cdv) (q := qL) T.tb.tp T.tb.ap
  refine ⟨_, _, ps_if (PW.pt (pw_or (pt_cmpR (op_neD hr.units) (pe_callS GW hr5' rfl T.tb.wi.g T.tb.wi.F.kp T.tb.wi.b (fun σ => passAt LamX.takes0 σ) (by exact (pa_cons (pe_tup (pa_cons pe_int (pa_cons (pe_tup (pa_cons pe_int (pa_cons pe_int (pa_cons pe_int pa_nil)))) pa_nil))) (pa_cons pe_int (pa_cons pe_int pa_nil))))) (pe_tup (pa_cons pe_int (pa_cons (pe_tup (pa_cons pe_int (pa_cons pe_int (pa_cons pe_int pa_nil)))) pa_nil))) (nomark _))
      (pw_or1 (pt_cmpR (op_neD hr.units) (pe_callS GW hr5' rfl T.tb.wi.g T.tb.wi.F.kp T.tb.wi.b (fun σ => passAt LamX.takes0 σ) (by exact (pa_cons (pe_tup (pa_cons pe_int (pa_cons (pe_tup (pa_cons pe_int (pa_cons pe_int (pa_cons pe_int pa_nil)))) pa_nil))) (pa_cons pe_int (pa_cons (pv 1) pa_nil))))) (pe_tup (pa_cons pe_int (pa_cons (pe_tup (pa_cons pe_int (pa_cons pe_int (pa_cons (pv 1) pa_nil)))) pa_nil))) (nomark _))))) (pss_one (ps_ret pe_bl)) pss_nil,
    ps_if (PW.pt (pw_or (pt_cmpR (op_neD hr.units) (pe_lamcall (T := Ts) (TT := TTs C CN) (k := 5) (t := fun E => tCallS (spWo C CN) (WE fun cls d _ H => E cls d H) (tCons (tTup (tCons (tC (.int 1)) (tCons (tTup tNil) tNil))) (tCons (tC (.int 9)) tNil))) rfl T.tb.said.g T.tb.said.F.kp lk hcd T.tb.said.b scSaid rfl (.inl rfl) SG TB rfl hm hu hr7
        (lamS_by (sc := defScope sLaw) (by decide +kernel)) rfl (fun _ _ _ _ _ => rfl)
        (fun A outer s H E f c' hr5 => by exact (pe_callS GV hr5 rfl T.tb.wo.g T.tb.wo.F.kp T.tb.wo.b (fun σ => passAt (takes_of rfl rfl rfl rfl) σ) (by exact (pa_cons (pe_tup (pa_cons pe_int (pa_cons (pe_tup pa_nil) pa_nil))) (pa_cons pe_int pa_nil)))))) (pe_tup (pa_cons pe_str (pa_cons (pe_tup (pa_cons pe_int pa_nil)) pa_nil))) (nomark _))
      (pw_or1 (pt_cmpR (op_neD hr.units) (pe_callS GV hr5' rfl T.tb.wo.g T.tb.wo.F.kp T.tb.wo.b (fun σ => passAt LamX.takes0 σ) (by exact (pa_cons (pe_tup (pa_cons pe_int (pa_cons (pe_op op_repT (pe_tup (pa_cons pe_int pa_nil)) pe_int) pa_nil))) (pa_cons pe_int pa_nil)))) (pe_tup (pa_cons pe_int (pa_cons (pe_op op_repT (pe_tup (pa_cons pe_int pa_nil)) pe_int) pa_nil))) (nomark _))))) (pss_one (ps_ret pe_bl)) pss_nil, ?_⟩
  intro D G a v u tb0 k
  have hm0 : ∀ G : Hp, Da G (.int most) (.int most) := fun G => .int _
  refine tne (d := planD 2 [9, 6, 7]) (e := planD 2 [9, 6, 7]) (H0 := G) (tv_with (d := planD 2 [5, 6, 7]) (ta_cons (tv_tup (ta_cons (tv_int _) (ta_cons (tv_tup (ta_cons (tv_int _) (ta_cons (tv_int _) (ta_cons (tv_int _) ta_nil))) (by decide)) ta_nil)) (by decide)) (ta_cons (tv_int _) (ta_cons (tv_int _) ta_nil))) zr1) (tv_tup (ta_cons (tv_int _) (ta_cons (tv_tup (ta_cons (tv_int _) (ta_cons (tv_int _) (ta_cons (tv_int _) ta_nil))) (by decide)) ta_nil)) (by decide)) (by decide +kernel) (by decide +kernel) eqv_self1 (Same.refl _) fun H1 s1 => ?_
  refine iteF ?_
  refine tne (d := planD 2 [5, 6, most]) (e := planD 2 [5, 6, most]) (H0 := H1) (tv_with (d := planD 2 [5, 6, 7]) (ta_cons (tv_tup (ta_cons (tv_int _) (ta_cons (tv_tup (ta_cons (tv_int _) (ta_cons (tv_int _) (ta_cons (tv_int _) ta_nil))) (by decide)) ta_nil)) (by decide)) (ta_cons (tv_int _) (ta_cons (tv_var rfl (hm0 _)) ta_nil))) zr2) (tv_tup (ta_cons (tv_int _) (ta_cons (tv_tup (ta_cons (tv_int _) (ta_cons (tv_int _) (ta_cons (tv_var rfl (hm0 _)) ta_nil))) (by decide)) ta_nil)) (by decide)) (by decide +kernel) (by decide +kernel) eqv_self2 (Same.refl _) fun H2 s2 => ?_
  refine iteF ?_
  refine rd_said (z := .pla [1]) ((tb0.ext s1).ext s2) (fun H' Qc Ec o => rd_wo (d := .tuple [.int 1, .tuple []]) (dn := .int 9) (H0 := H') (ta_cons (tv_tup (ta_cons (tv_int _) (ta_cons (tv_tup ta_nil (by decide)) ta_nil)) (by decide)) (ta_cons (tv_int _) ta_nil)) (Same.refl _) (by rw [zr4]; exact o)) fun r H3 e3 tb3 d3 => ?_
  refine (tv_tup (ta_cons (tv_str _) (ta_cons (tv_tup (ta_cons (tv_int _) ta_nil) (by decide)) ta_nil)) (by decide) : Tv H3 _ _ (.tuple [.str "plan", .tuple [.int 1]])) H3 _ (Same.refl _) fun r2 H4 s4 d4 => ?_
  refine ⟨.tuple [.str "plan", .tuple [.int 1]], .tuple [.str "plan", .tuple [.int 1]], da_dp2 (s4.da d3) (by decide +kernel), da_dp2 d4 (by decide +kernel), by decide +kernel, by decide +kernel, _, rfl, ?_⟩
  have ee : PyData.eqv (.tuple [.str "plan", .tuple [.int 1]]) (.tuple [.str "plan", .tuple [.int 1]]) = true := by decide +kernel
  rw [ee]
  refine iteF ?_
  refine tne (d := planD 2 [5, 5, 5, 5, 5, 5, 5]) (e := planD 2 [5, 5, 5, 5, 5, 5, 5]) (H0 := H4) (tv_wo (d := planD 2 [5, 5, 5, 5, 5, 5, 5, 5]) (ta_cons (tv_tup (ta_cons (tv_int _) (ta_cons (tv_repT (tv_tup (ta_cons (tv_int _) ta_nil) (by decide)) (by simp) (by decide) (by decide) (by decide)) ta_nil)) (by decide)) (ta_cons (tv_int _) ta_nil)) zr3) (tv_tup (ta_cons (tv_int _) (ta_cons (tv_repT (tv_tup (ta_cons (tv_int _) ta_nil) (by decide)) (by simp) (by decide) (by decide) (by decide)) ta_nil)) (by decide)) (by decide +kernel) (by decide +kernel) eqv_self3 (Same.refl _) fun H5 s5 => ?_
  refine iteF ?_
  exact k H5 ((ExtN.of (s1.trans s2)).trans (e3.trans (ExtN.of (s4.trans s5)))) ((tb3.ext s4).ext s5)
end
end K2
set_option Elab.async false
set_option linter.all false
set_option maxRecDepth 100000
set_option maxHeartbeats 4000000
namespace K2
open PySem L2 Gd PySem.ExG
set_option exponentiation.threshold 10000
theorem dp_ints {K : PySem.W.Frag} {H : Hp} : ∀ ps : List Int, DpAll K H (ps.map V.int) (ps.map PyData.int)
  | [] => .nil
  | i :: r => .cons (.int i) (dp_ints r)
theorem cut_ints (ns : List Int) (lo hi : Option Int) : ∃ ms : List Int, cutV (ns.map V.int) lo hi = ms.map V.int ∧ ms.length ≤ ns.length := by
  refine ⟨(ns.drop (HT.sIx (ns.map V.int).length 0 lo)).take (HT.sIx (ns.map V.int).length (ns.map V.int).length hi - HT.sIx (ns.map V.int).length 0 lo), ?_, ?_⟩
  · unfold cutV
    rw [List.map_take, List.map_drop]
  · rw [List.length_take, List.length_drop]
    omega
theorem merge_mD (l sd : Int) (c : Addr) (sp : Int) : mergeK [] [((.inr "left" : Key), V.int l), ((.inr "seed" : Key), .int sd), ((.inr "cells" : Key), .ref c), ((.inr "spot" : Key), .int sp)] = mD l sd c sp := by
  have h1 := inr_ne sne1
  have h2 := inr_ne sne2
  have h3 := inr_ne sne3
  have h4 := inr_ne sne4
  have h5 := inr_ne sne5
  have h6 := inr_ne sne6
  simp [mergeK, putK, h1, h2, h3, h4, h5, h6, mD]
/-- _law_begun(script, k): the draws' state, new -/
def spBegun (K : PySem.W.Frag) : Sp := fun vs H Q _ => ∃ (a : Addr) (ns : List Int) (k : Int), vs = [.ref a, .int k] ∧ SqL K H a (ns.map V.int) ∧ ns.length ≤ 63 ∧ 0 ≤ k ∧ k ≤ 100 ∧
  ∀ (m c : Addr) (H' : Hp), H m = none → MOk H' m c 0 → Same H H' → Q (.ref m) H'
section
variable {P : Program} {w : World} {K : PySem.W.Frag} {mg : Str → Option Value} {base : Heap}
theorem scBegun : FnScope ["script", "k", "cells", "cell", "great", "seed"] ["script", "k"] (defScope sBegun) := ⟨rfl, rfl, rfl, by decide +kernel, rfl, by decide +kernel, by decide +kernel⟩
theorem ok_begun {f : Addr} {fd : FuncData} (F : Fun K "_law_begun" "_law_begun" sBegun f fd) (T : Txt K mg) : FnOk P w K mg base CX0 1 f fd ["script", "k"] (spBegun K) := by
  refine F.ok scBegun (fun vs H Q E h => ?_) (fun cdv A outer s H vs Q E hr h => ?_)
  · obtain ⟨a, ns, k, rfl, _⟩ := h
    rfl
  · obtain ⟨a, ns, k, rfl, hS, hl, k0, k1, kq⟩ := h
    have nd := scBegun.nd
    refine ⟨_, pss_cons (ps_set (i := 2) nd rfl (Or.inl rfl) (pe_op op_cat (pe_slice sl_list (pv 0) (po_some (pv 1)) po_none) (pe_slice sl_list (pv 0) po_none (po_some (pv 1)))))
      (pss_cons (ps_setLc (i := 4) (own := [("cell", 3)]) (g := gName 3) rfl nd rfl rfl (sw_true rfl rfl rfl (by decide +kernel)) (pi_list (pv 2))
          (blkOk_by (N := ["script", "k", "cells", "cell", "great", "seed"]) (sc := defScope sBegun) (by decide +kernel))
          (fun _ _ _ _ _ => by exact (pg_name (i := 3) nd rfl (Or.inl rfl)))
          (fun _ _ _ _ _ => pts_one (pt_cmpR op_ge (pv 3) (pe_op op_pow pe_int pe_int) (nomark _)))
          (fun _ _ _ _ _ => pv 3))
      (pss_cons (ps_set (i := 5) nd rfl (Or.inl rfl) (pe_op op_add pe_int (pv 1)))
      (pss_cons (ps_for PassesOwn.never rfl (pi_list (pv 2)) (pg_name (i := 3) nd rfl (Or.inl rfl))
        (pss_one (ps_set (i := 5) nd rfl (Or.inl rfl) (pe_op op_mod (pe_callTy call_int1 (by rfl) T.int (by decide +kernel) (pa_cons (pe_op op_add (pe_op op_mul (pv 5) pe_int) (pv 3)) pa_nil)) pe_int))))
      (pss_one (ps_ret (pe_disp (pps_cons pe_str (pe_ifExp (pt_cmpR (op_neD hr.units) (pv 4) (pe_lst pa_nil) (nomark _)) (pe_ix ix_list (pv 4) pe_int (fun _ _ => rfl)) pe_int)
        (pps_cons pe_str (pv 5) (pps_cons pe_str (pe_op op_cat (pv 2) (pe_lst (pa_cons (pe_op op_add (pe_op op_mul pe_int (pv 1)) pe_int) pa_nil))) (pps_cons pe_str pe_int pps_nil))))
        (by rfl) (by rfl) (fun z => by cases z) (by decide))))))), ?_⟩
    have sz : ∀ k : Nat, k ≤ 5000 → k ≤ sizeLine := fun k h => Nat.le_trans h (by rw [sizeLine_eq]; decide)
    obtain ⟨ms1, e1, l1⟩ := cut_ints ns (some k) none
    obtain ⟨ms2, e2, l2⟩ := cut_ints ns none (some k)
    -- cells
    refine ⟨_, rfl, _, rfl, _, rfl, a, _, rfl, hS, fun p1 h1 => ?_⟩
    rw [e1]
    have s1 := Same.new (o := .lst (ms1.map V.int)) h1
    refine ⟨_, rfl, _, rfl, _, rfl, a, _, rfl, s1.seq hS, fun p2 h2 => ?_⟩
    rw [e2]
    have s2 := s1.trans (Same.new (o := .lst (ms2.map V.int)) h2)
    refine ⟨p1, p2, _, _, rfl, rfl, Same.new h2 _ _ upd_same, upd_same, sz _ (by rw [List.length_map, List.length_map]; omega), fun p3 h3 => ?_⟩
    rw [← List.map_append]
    have s3 := s2.trans (Same.new (o := .lst ((ms1 ++ ms2).map V.int)) h3)
    have lc : (ms1 ++ ms2).length ≤ 126 := by rw [List.length_append]; omega
    generalize hG : upd (upd (upd H p1 (.lst (ms1.map V.int))) p2 (.lst (ms2.map V.int))) p3 (.lst ((ms1 ++ ms2).map V.int)) = H3 at s3 ⊢
    have hc : H3 p3 = some (.lst ((ms1 ++ ms2).map V.int)) := by rw [← hG]; exact upd_same
    -- great
    refine ⟨_, rfl, p3, rfl, ⟨_, SqL.of hc⟩, fun D hD => ?_⟩
    refine lc_list (K := K) (a := p3) (xs := (ms1 ++ ms2).map V.int) (fun i H' => Same H3 H' ∧ ∃ acc : List Int, H' D = some (.lst (acc.map V.int)) ∧ acc.length ≤ i)
      ⟨Same.new hD, [], upd_same, Nat.le_refl _⟩ (fun i H' _ ⟨s4, _⟩ => SqL.of (s4 _ _ hc)) ?_ ?_
    · rintro i x H4 hx ⟨s4, acc, ha, hac⟩
      have hi : i < 126 := by
        have := (List.getElem?_eq_some_iff.mp hx).1
        rw [List.length_map] at this
        omega
      obtain ⟨z, rfl⟩ : ∃ z, x = V.int z := by
        rw [List.getElem?_map] at hx
        cases e : (ms1 ++ ms2)[i]? with
        | none =>
          rw [e] at hx
          cases hx
        | some z =>
          rw [e] at hx
          exact ⟨z, (Option.some.inj hx).symm⟩
      refine ⟨rfl, _, rfl, _, _, rfl, rfl, ⟨by decide, by decide, by decide⟩, _, _, rfl, rfl, _, rfl, ?_⟩
      refine ite2 (fun _ => ?_) (fun _ => ?_)
      · refine ⟨_, rfl, _, ha, ?_, ?_⟩
        · rw [List.length_map, sizeLine_eq]
          omega
        · refine ⟨fun b o q => ?_, acc ++ [z], ?_, ?_⟩
          · rw [upd_ne (ne_of_none q hD)]
            exact s4 b o q
          · rw [upd_same, List.map_append]
            rfl
          · rw [List.length_append]
            exact Nat.succ_le_succ hac
      · exact ⟨s4, acc, ha, Nat.le_succ_of_le hac⟩
    · rintro H4 ⟨s4, acc, ha, hac⟩
      -- seed
      refine ⟨_, rfl, _, _, rfl, rfl, ?_⟩
      refine ⟨_, rfl, p3, rfl, ⟨_, SqL.of (s4 _ _ hc)⟩, for_list (K := K) (a := p3) (xs := (ms1 ++ ms2).map V.int)
        (fun i σ H' => ∃ (c5 : Option V) (sd : Int), σ = [some (.ref a), some (.int k), some (.ref p3), c5, some (.ref D), some (.int sd)] ∧ Same H4 H') ⟨none, _, rfl, Same.refl _⟩
        (fun i σ H' _ ⟨_, _, _, s5⟩ => SqL.of (s5 _ _ (s4 _ _ hc))) ?_ ?_⟩
      · rintro i x σ H5 hx ⟨c5, sd, rfl, s5⟩
        obtain ⟨z, rfl⟩ : ∃ z, x = V.int z := by
          rw [List.getElem?_map] at hx
          cases e : (ms1 ++ ms2)[i]? with
          | none =>
            rw [e] at hx
            cases hx
          | some z =>
            rw [e] at hx
            exact ⟨z, (Option.some.inj hx).symm⟩
        refine ⟨_, rfl, _, _, rfl, rfl, .inr ⟨by decide, by decide⟩, _, rfl, _, _, rfl, rfl, .inl ⟨_, rfl, ?_⟩⟩
        refine ⟨_, _, rfl, rfl, (by show (0 : Int) < 2147483647; decide), ?_⟩
        exact ⟨_, _, rfl, s5⟩
      · rintro σ H5 ⟨c5, sd, rfl, s5⟩
        have ha5 := s5 _ _ ha
        have hc5 := s5 _ _ (s4 _ _ hc)
        intro m hm
        have s6 := Same.new (o := .dK []) hm
        have hm0 : H m = none := (s3.trans (s4.trans s5)).free hm
        have tot := (s3.trans (s4.trans s5))
        refine ⟨_, rfl, Nat.zero_le _, fun q1 hq1 => ?_⟩
        have s7 := s6.trans (Same.new (o := .lst []) hq1)
        have hmm : upd (upd H5 m (.dK [])) q1 (.lst []) m = some (.dK []) := Same.new hq1 _ _ upd_same
        refine ⟨.list (acc.map .int), .list [], .lst (SqL.of (s7 _ _ ha5)) (dp_ints acc), .lst (SqL.of upd_same) .nil, PySem.W.ke_shaped_ints acc, PySem.W.ke_shaped_ints [], _, rfl, ?_⟩
        have kb : CMul 37 k := .inl ⟨by decide, by decide⟩
        have fin : ∀ (l : Int) (q2 q3 : Addr) (o2 o3 : HO), upd (upd H5 m (.dK [])) q1 (.lst []) q2 = none → upd (upd (upd H5 m (.dK [])) q1 (.lst [])) q2 o2 q3 = none →
            o3 = .lst ((ms1 ++ ms2).map V.int ++ [V.int (37 * k + 11)]) →
            Q (.ref m) (upd (upd (upd (upd (upd H5 m (.dK [])) q1 (.lst [])) q2 o2) q3 o3) m (.dK (mergeK [] [((.inr "left" : Key), V.int l), ((.inr "seed" : Key), .int sd), ((.inr "cells" : Key), .ref q3), ((.inr "spot" : Key), .int 0)]))) := by
          intro l q2 q3 o2 o3 h2 h3 ho
          rw [merge_mD]
          have m2 : upd (upd (upd H5 m (.dK [])) q1 (.lst [])) q2 o2 m = some (.dK []) := Same.new h2 _ _ hmm
          have n3 : q3 ≠ m := (ne_of_none m2 h3).symm
          refine kq m q3 _ hm0 ⟨⟨l, sd, 0, (ms1 ++ ms2) ++ [37 * k + 11], upd_same, ?_, ?_, ?_, Int.le_refl _, Int.le_refl _⟩⟩ ?_
          · rw [upd_ne n3, upd_same, ho]
            simp only [List.map_append, List.map_cons, List.map_nil]
          · rw [List.length_append]
            exact Nat.succ_pos _
          · rw [List.length_append]
            show (ms1 ++ ms2).length + 1 ≤ 200
            omega
          · intro b o hb
            have hb5 := tot b o hb
            rw [upd_ne (ne_of_none hb hm0)]
            exact Same.new h3 _ _ (Same.new h2 _ _ (s7 _ _ hb5))
        cases acc with
        | nil =>
          refine iteF ?_
          refine ⟨_, rfl, _, rfl, _, rfl, _, _, rfl, rfl, kb, _, _, rfl, rfl, sz 1 (by decide), fun q2 h2 => ?_⟩
          refine ⟨p3, q2, _, _, rfl, rfl, Same.new h2 _ _ (s7 _ _ hc5), upd_same, sz _ (by rw [List.length_map]; simp only [List.length_cons, List.length_nil]; omega), fun q3 h3 => ?_⟩
          exact ⟨Same.new h3 _ _ (Same.new h2 _ _ hmm), [((.inr "left" : Key), V.int 0), ((.inr "seed" : Key), .int sd), ((.inr "cells" : Key), .ref q3), ((.inr "spot" : Key), .int 0)], rfl, (by simp), fin 0 q2 q3 _ _ h2 h3 rfl⟩
        | cons j acc =>
          refine iteT ⟨_, rfl, D, _, _, _, rfl, rfl, SqL.of (s7 _ _ ha5), atI_nat (j := 0) rfl, ?_⟩
          refine ⟨_, rfl, _, rfl, _, rfl, _, _, rfl, rfl, kb, _, _, rfl, rfl, sz 1 (by decide), fun q2 h2 => ?_⟩
          refine ⟨p3, q2, _, _, rfl, rfl, Same.new h2 _ _ (s7 _ _ hc5), upd_same, sz _ (by rw [List.length_map]; simp only [List.length_cons, List.length_nil]; omega), fun q3 h3 => ?_⟩
          exact ⟨Same.new h3 _ _ (Same.new h2 _ _ hmm), [((.inr "left" : Key), V.int j), ((.inr "seed" : Key), .int sd), ((.inr "cells" : Key), .ref q3), ((.inr "spot" : Key), .int 0)], rfl, (by simp), fin j q2 q3 _ _ h2 h3 rfl⟩
end
end K2
set_option Elab.async false
set_option linter.all false
set_option maxRecDepth 100000
set_option maxHeartbeats 4000000
namespace K2
open PySem L2 Gd PySem.ExG LamX
set_option exponentiation.threshold 10000
theorem ext_seq {K : PySem.W.Frag} {H H' : Hp} {a : Addr} {xs : List V} (e : ExtN H H') (h : SqL K H a xs) : SqL K H' a xs := by
  rcases h with (h | ⟨o, h⟩) | h
  · exact .inl (.inl (e _ _ h (by intro ps z; cases z)))
  · exact .inl (.inr ⟨o, e _ _ h (by intro ps z; cases z)⟩)
  · exact .inr h
theorem Frm.same {H H' : Hp} {v : V} {hi : Int} {gs : List Int} (f : Frm H v hi gs) (s : Same H H') : Frm H' v hi gs := by
  obtain ⟨G, p, q, e, h1, h2⟩ := f
  exact ⟨G, p, q, e, s _ _ h1, s _ _ h2⟩
theorem Frm.growN {H H' : Hp} {m c : Addr} {n : Nat} {v : V} {hi : Int} {gs : List Int} (f : Frm H v hi gs) (M : MOk H m c n) (g : GrowN m H H') : Frm H' v hi gs := by
  obtain ⟨G, p, q, e, h1, h2⟩ := f
  exact ⟨G, p, q, e, g _ _ (M.neT h1) h1 (by intro ps z; cases z), g _ _ (M.neT h2) h2 (by intro ps z; cases z)⟩
theorem Frm.da {H : Hp} {v : V} {hi : Int} {gs : List Int} (f : Frm H v hi gs) : Da H v (planD hi gs) := by
  obtain ⟨G, p, q, rfl, h1, h2⟩ := f
  exact plan_da h1 h2
theorem prod_lt {hi : Int} {gs : List Int} (G : Good hi gs) : (prodOf gs).natAbs < 2 ^ 900 := by
  have B := sh_at G.all gs.length (Nat.le_refl _)
  rw [List.take_length] at B
  have := (B.up G.l8).2
  rw [sh_snd] at this
  exact this
theorem sum_lt {hi : Int} {gs : List Int} (G : Good hi gs) : (low (shOf gs)).1.natAbs < 2 ^ 900 ∧ (low (shOf gs)).2.natAbs < 2 ^ 900 := by
  have B := sh_at G.all gs.length (Nat.le_refl _)
  rw [List.take_length] at B
  exact B.lo.up G.l8
def prD (gs : List Int) : PyData := .list [.tuple [.int (low (shOf gs)).1, .int (low (shOf gs)).2], .int (prodOf gs)]
theorem sm_prD {hi : Int} {gs : List Int} (G : Good hi gs) : Sm 16000000 30 (prD gs) := by
  have up : ∀ z : Nat, z < 2 ^ 900 → z < 2 ^ 1920 := fun z h => Nat.lt_trans h (Nat.pow_lt_pow_right (by decide) (by decide))
  have z1 := sm_tup (n := 1921) (k := 0) (ds := [.int (low (shOf gs)).1, .int (low (shOf gs)).2]) ⟨fun x hx => by
    simp only [List.mem_cons, List.not_mem_nil, or_false] at hx
    rcases hx with rfl | rfl
    · exact sm_int (up _ (sum_lt G).1)
    · exact sm_int (up _ (sum_lt G).2)⟩
  have z := sm_lst (n := 20000) (k := 1) (ds := [.tuple [.int (low (shOf gs)).1, .int (low (shOf gs)).2], .int (prodOf gs)]) ⟨fun x hx => by
    simp only [List.mem_cons, List.not_mem_nil, or_false] at hx
    rcases hx with rfl | rfl
    · exact z1.up (by show 2 * 1923 + 3 ≤ 20000; decide) (by decide)
    · exact (sm_int (up _ (prod_lt G))).up (by decide) (by decide)⟩
  exact z.up (by show 2 * 20002 + 3 ≤ 16000000; decide) (by decide)
section
variable {P : Program} {w : World} {K : PySem.W.Frag} {mg : Str → Option Value} {base : Heap} {C fI CN fJ fB fG fN fM fD fO fW fV fA fS fL fSh fMa fBg fLo fSu fPr fDr fBe : Addr} {fdB fdG fdN fdM fdD fdO fdW fdV fdA fdS fdL fdSh fdMa fdBg fdLo fdSu fdPr fdDr fdBe : FuncData}
  {f c PL : Addr} {A : Around} {outer : List Env} {s : Shared} {H : Hp} {E : XK} {Ts : List (Addr × Str)}
/-- the drawn turns -/
theorem part_e (T : TxW P K mg C fI CN fJ fB fG fN fM fD fO fW fV fA fS fL fSh fMa fBg fLo fSu fPr fDr fdB fdG fdN fdM fdD fdO fdW fdV fdA fdS fdL fdSh fdMa fdBg fdLo fdSu fdPr fdDr) (hr : Room 8 (cxL P w K mg base f (.ref c) A outer s H E).A)
    (gA : A.guards = some []) (hb : ∃ o, base.get? sysModules = some o) (GBe : FnG P w K mg base CX0 8 fBe fdBe ["m", "frame"] (spBR Ts)) (ABe : At K mg "_law_bent_right" sBent ["m", "frame"] fBe fdBe) :
    ∃ t8 : TS, PS (cxL P w K mg base f (.ref c) A outer s H E) (stL 8) t8 ∧
      ∀ (D : Ends) (G : Hp) (a : Addr) (ns : List Int) (v : V), SqL K G a (ns.map V.int) → ns.length ≤ 63 → Tabs Ts G → (∀ (σ : L2.St) (G' : Hp), D.nx σ G') →
      t8 D [some (.ref a), some (.int most), some v, none, none, none, none, none] G := by
  have GS : FnOk P w K mg base CX0 5 fSh fdSh ["plan"] spShare := ok_share T.share.F T.tb.tp
  have GM : FnOk P w K mg base CX0 5 fMa fdMa ["plan"] spMany := ok_many T.many.F T.tb.tp
  have GU : FnOk P w K mg base CX0 2 fSu fdSu ["sheet"] spSum := ok_sum T.sum.F T.tl
  have GP : FnOk P w K mg base CX0 1 fPr fdPr ["sheet"] spProd := ok_prod T.prod.F
  have GD : FnOk P w K mg base CX0 3 fDr fdDr ["m"] spDrawn := ok_drawn T.drawn.F T.tb.to
  have GG : FnOk P w K mg base CX0 1 fBg fdBg ["script", "k"] (spBegun K) := ok_begun T.begun.F T.tl.tx
  have hr1 : Room 1 (cxL P w K mg base f (.ref c) A outer s H E).A := hr.mono (by decide)
  have hr2 : Room 2 (cxL P w K mg base f (.ref c) A outer s H E).A := hr.mono (by decide)
  have hr3 : Room 3 (cxL P w K mg base f (.ref c) A outer s H E).A := hr.mono (by decide)
  have hr5 : Room 5 (cxL P w K mg base f (.ref c) A outer s H E).A := hr.mono (by decide)
  have nd := scLaw.nd
  refine ⟨_, ps_for PassesOwn.never rfl (pi_range1 rfl T.tb.to.range (pa_cons (pe_op op_add pe_int (pe_callB (call_min2 rfl) (by rfl) T.min (by decide +kernel)
          (pa_cons (pe_callB call_len_seq (by rfl) T.tl.tx.len PySem.boot_len (pa_cons (pv 0) pa_nil)) (pa_cons pe_int pa_nil)))) pa_nil)) (pg_name (i := 3) nd rfl (Or.inl rfl))
        (pss_cons (ps_set (i := 4) nd rfl (Or.inl rfl) (pe_call GG hr1 rfl T.begun.g T.begun.F.kp T.begun.b .nil pass0 (pa_cons (pv 0) (pa_cons (pv 3) pa_nil))))
        (pss_one (ps_for PassesOwn.never rfl (pi_range1 rfl T.tb.to.range (pa_cons pe_int pa_nil)) (pg_name (i := 5) nd rfl (Or.inl rfl))
          (pss_cons (ps_set (i := 6) nd rfl (Or.inl rfl) (pe_call GD hr3 rfl T.drawn.g T.drawn.F.kp T.drawn.b .nil pass0 (pa_cons (pv 4) pa_nil)))
          (pss_cons (ps_for PassesOwn.never rfl (pi_range1 rfl T.tb.to.range (pa_cons pe_int pa_nil)) (pg_name (i := 7) nd rfl (Or.inl rfl))
            (pss_one (ps_if (pt_cmpR op_ne
                (pe_callB (call_repr gA hr.units hb) (by rfl) T.tb.repr (by decide +kernel) (pa_cons (pe_lst (pa_cons (pe_call GS hr5 rfl T.share.g T.share.F.kp T.share.b .nil pass0 (pa_cons (pv 6) pa_nil)) (pa_cons (pe_call GM hr5 rfl T.many.g T.many.F.kp T.many.b .nil pass0 (pa_cons (pv 6) pa_nil)) pa_nil))) pa_nil))
                (pe_callB (call_repr gA hr.units hb) (by rfl) T.tb.repr (by decide +kernel) (pa_cons (pe_lst (pa_cons (pe_call GU hr2 rfl T.sum.g T.sum.F.kp T.sum.b .nil pass0 (pa_cons (pe_ix ix_tup (pv 6) pe_int (fun _ _ => rfl)) pa_nil)) (pa_cons (pe_call GP hr1 rfl T.prod.g T.prod.F.kp T.prod.b .nil pass0 (pa_cons (pe_ix ix_tup (pv 6) pe_int (fun _ _ => rfl)) pa_nil)) pa_nil))) pa_nil)) (nomark _))
              (pss_one (ps_ret pe_bl)) pss_nil)))
          (pss_one (ps_for PassesOwn.never rfl (pi_range1 rfl T.tb.to.range (pa_cons pe_int pa_nil)) (pg_name (i := 7) nd rfl (Or.inl rfl))
            (pss_one (ps_if (pt_not (pt_val (pe_callG GBe gA hr rfl ABe.g ABe.F.kp ABe.b .nil pass0 (pa_cons (pv 4) (pa_cons (pv 6) pa_nil))))) (pss_one (ps_ret pe_bl)) pss_nil))))))))), ?_⟩
  intro D G a ns v hS hl tb k
  refine ⟨_, rfl, a, _, rfl, .inl hS, _, _, rfl, _, _, rfl, rfl, ?_⟩
  have lm : (ns.map V.int).length ≤ 63 := by rw [List.length_map]; exact hl
  have hN : ∃ N : Nat, N ≤ 9 ∧ (3 + (if (6 : Int) < ((ns.map V.int).length : Nat) then (6 : Int) else ((ns.map V.int).length : Nat))) = (N : Int) := by
    by_cases c : (6 : Int) < ((ns.map V.int).length : Nat)
    · rw [if_pos c]
      exact ⟨9, by decide, rfl⟩
    · rw [if_neg c]
      exact ⟨3 + (ns.map V.int).length, by omega, by omega⟩
  obtain ⟨N, n9, eN⟩ := hN
  refine ⟨3 + (if (6 : Int) < ((ns.map V.int).length : Nat) then (6 : Int) else ((ns.map V.int).length : Nat)), rfl, by rw [eN]; omega, by rw [eN]; omega,
    for_range (n := (3 + (if (6 : Int) < ((ns.map V.int).length : Nat) then (6 : Int) else ((ns.map V.int).length : Nat))).toNat) (fun i σ H' => ∃ kk m t fr ag : Option V, σ = [some (.ref a), some (.int most), some v, kk, m, t, fr, ag] ∧ ExtN G H' ∧ Tabs Ts H') ⟨none, none, none, none, none, rfl, ExtN.refl G, tb⟩ ?_ ?_⟩
  · rintro i σ H2 hi ⟨kk, m0, t0, f0, ag0, rfl, e2, tb2⟩
    rw [eN, Int.toNat_natCast] at hi
    refine ⟨_, rfl, _, rfl, a, ns, _, rfl, ext_seq e2 hS, hl, by omega, by omega, fun m cl H3 hm M s3 => ?_⟩
    refine ⟨4, rfl, by decide, by decide, for_range (n := 4) (fun j σ H' => ∃ t fr ag : Option V, σ = [some (.ref a), some (.int most), some v, some (.int (0 + (i : Nat))), some (.ref m), t, fr, ag] ∧ GrowN m H3 H' ∧ MOk H' m cl (j * 42) ∧ Tabs Ts H') ⟨t0, f0, ag0, rfl, GrowN.refl _ _, M, tb2.ext s3⟩ ?_ ?_⟩
    · rintro j σ H4 hj ⟨t1, f1, ag1, rfl, g4, M4, tb4⟩
      refine ⟨_, rfl, m, cl, j * 42, rfl, M4, by omega, fun fv hi gs H5 Fr M5 g5 => ?_⟩
      have tb5 := tabs_grow M4 g5 tb4
      refine ⟨2, rfl, by decide, by decide, for_range (n := 2) (fun i2 σ H' => ∃ ag : Option V, σ = [some (.ref a), some (.int most), some v, some (.int (0 + (i : Nat))), some (.ref m), some (.int (0 + (j : Nat))), some fv, ag] ∧ Same H5 H') ⟨ag1, rfl, Same.refl _⟩ ?_ ?_⟩
      · rintro i2 σ H6 hi2 ⟨ag2, rfl, s6⟩
        have F6 := Fr.same s6
        refine ⟨_, rfl, fv, hi, gs, rfl, F6.da, F6.good, fun r1 H7 s7 d7 => ⟨_, rfl, fv, hi, gs, rfl, s7.da F6.da, F6.good, fun H8 s8 => ⟨(by show 2 ≤ sizeLine; decide), fun p1 hp1 => ?_⟩⟩⟩
        have s9 := Same.new (o := .lst [r1, .int (prodOf gs)]) hp1
        have dl : Da (upd H8 p1 (.lst [r1, .int (prodOf gs)])) (.ref p1) (prD gs) := .lst upd_same (.cons (s9.da (s8.da d7)) (.cons (.int _) .nil))
        refine ⟨_, _, rfl, dl, sm_prD F6.good, ?_⟩
        have F9 := F6.same (s7.trans (s8.trans s9))
        obtain ⟨Gd0, p, q, rfl, hp, hq⟩ := F9
        refine ⟨_, rfl, p, _, _, _, rfl, rfl, SqT.of hp, rfl, q, gs, rfl, hq, Gd0.l8, Gd0.all, fun p2 H10 s10 hp2 => ?_⟩
        refine ⟨_, rfl, p, _, _, _, rfl, rfl, SqT.of (s10 _ _ hp), rfl, q, gs, rfl, s10 _ _ hq, Gd0.l8, Gd0.all, (by show 2 ≤ sizeLine; decide), fun p3 hp3 => ?_⟩
        have s11 := Same.new (o := .lst [.ref p2, .int (prodOf gs)]) hp3
        have dl2 : Da (upd H10 p3 (.lst [.ref p2, .int (prodOf gs)])) (.ref p3) (prD gs) := by
          rw [lawSum_eq (fun g hg => (Gd0.all g hg).1)] at hp2
          exact .lst upd_same (.cons (s11.da (.tup hp2 (.cons (.int _) (.cons (.int _) .nil)))) (.cons (.int _) .nil))
        refine ⟨_, _, rfl, dl2, sm_prD Gd0, ?_⟩
        refine ⟨rfl, _, rfl, ?_⟩
        refine iteNS rfl ?_
        exact ⟨_, rfl, s6.trans (s7.trans (s8.trans (s9.trans (s10.trans s11))))⟩
      · rintro σ H6 ⟨ag2, rfl, s6⟩
        have F6 := Fr.same s6
        have M6 : MOk H6 m cl (j * 42 + 30) := mok_same M5 s6
        refine ⟨3, rfl, by decide, by decide, for_range (n := 3) (fun i3 σ H' => ∃ ag : Option V, σ = [some (.ref a), some (.int most), some v, some (.int (0 + (i : Nat))), some (.ref m), some (.int (0 + (j : Nat))), some fv, ag] ∧ GrowN m H6 H' ∧ MOk H' m cl (j * 42 + 30 + i3 * 4) ∧ Tabs Ts H') ⟨ag2, rfl, GrowN.refl _ _, M6, tb5.ext s6⟩ ?_ ?_⟩
        · rintro i3 σ H7 hi3 ⟨ag3, rfl, g7, M7, tb7⟩
          have F7 := F6.growN M6 g7
          refine ⟨_, rfl, _, rfl, m, cl, _, fv, hi, gs, rfl, M7, by omega, F7, tb7, fun H8 M8 g8 tb8 => ⟨_, rfl, iteF ?_⟩⟩
          exact ⟨_, rfl, g7.trans g8, M8.up (by omega), tb8⟩
        · rintro σ H7 ⟨ag3, rfl, g7, M7, tb7⟩
          exact ⟨_, _, _, rfl, g4.trans ((Grow.toN g5).trans (((sG s6).toN).trans g7)), M7.up (by omega), tb7⟩
    · rintro σ H4 ⟨t1, f1, ag1, rfl, g4, M4, tb4⟩
      refine ⟨_, _, _, _, _, rfl, fun b o e nt => ?_, tb4⟩
      exact g4 b o (ne_of_none (e2 b o e nt) hm) (s3 b o (e2 b o e nt)) nt
  · rintro σ H2 ⟨kk, m0, t0, f0, ag0, rfl, e2, tb2⟩
    exact k _ H2
end
end K2
set_option Elab.async false
set_option linter.all false
set_option maxRecDepth 100000
set_option maxHeartbeats 4000000
namespace K2
open PySem L2 Gd PySem.ExG LamX
set_option exponentiation.threshold 10000
/-- the law's: True -/
def spLaw (K : PySem.W.Frag) (Ts : List (Addr × Str)) : Sp := fun vs H Q _ => ∃ (a : Addr) (ns : List Int), vs = [.ref a] ∧ SqL K H a (ns.map V.int) ∧ ns.length ≤ 63 ∧ Tabs Ts H ∧ ∀ H', Q (.bl true) H'
section
variable {P : Program} {w : World} {K : PySem.W.Frag} {mg : Str → Option Value} {base : Heap} {C fI CN fJ fB fG fN fM fD fO fW fV fA fS fL fSh fMa fBg fLo fSu fPr fDr fBe : Addr} {fdB fdG fdN fdM fdD fdO fdW fdV fdA fdS fdL fdSh fdMa fdBg fdLo fdSu fdPr fdDr fdBe : FuncData}
  {c PL : Addr} {Ts : List (Addr × Str)}
theorem ok_law {f : Addr} {oc kV doc pm ct : Value} {od an : Option Addr} {osl : Array (Option Value)} (lk : K.lookup f = some ⟨oc, od, .func (PySem.W.fnOf "law" "law" (defArgs sLaw) (defBody sLaw) (defScope sLaw) .none kV doc pm an (.ref c) ct), osl⟩)
    (hcd : PySem.W.codeIn K (.ref c) "law" = true)
    (T : TxW P K mg C fI CN fJ fB fG fN fM fD fO fW fV fA fS fL fSh fMa fBg fLo fSu fPr fDr fdB fdG fdN fdM fdD fdO fdW fdV fdA fdS fdL fdSh fdMa fdBg fdLo fdSu fdPr fdDr)
    (hb : ∃ o, base.get? sysModules = some o) (TB : TabB base mg c PL) (hm : (PL, qL) ∈ Ts) (hu : ∀ p ∈ Ts, p.1 = PL → p.2 = qL)
    (GBe : FnG P w K mg base CX0 8 fBe fdBe ["m", "frame"] (spBR Ts)) (ABe : At K mg "_law_bent_right" sBent ["m", "frame"] fBe fdBe) :
    FnG P w K mg base CX0 9 f (PySem.W.fnOf "law" "law" (defArgs sLaw) (defBody sLaw) (defScope sLaw) .none kV doc pm an (.ref c) ct) ["script"] (spLaw K Ts) := by
  refine fnG_of lk hcd scLaw (fun vs H Q E h => ?_) (fun A outer s H vs Q E gA hr h => ?_)
  · obtain ⟨a, ns, rfl, _⟩ := h
    rfl
  · obtain ⟨a, ns, rfl, hS, hl, tb, k⟩ := h
    obtain ⟨t0, t1, t2, p0, p1, p2, ra⟩ := part_a (w := w) (base := base) (f := f) (c := c) (A := A) (outer := outer) (s := s) (H := H) (E := E) T hr
    obtain ⟨t3, t4, t5, p3, p4, p5, rb⟩ := part_b (w := w) (base := base) (f := f) (c := c) (A := A) (outer := outer) (s := s) (H := H) (E := E) T hr TB hm hu
    obtain ⟨t6, t7, p6, p7, rc⟩ := part_c (w := w) (base := base) (f := f) (c := c) (A := A) (outer := outer) (s := s) (H := H) (E := E) T hr TB hm hu
    obtain ⟨t8, p8, re⟩ := part_e (w := w) (base := base) (f := f) (c := c) (A := A) (outer := outer) (s := s) (H := H) (E := E) T hr gA hb GBe ABe
    refine ⟨_, PSs.nox (pss_cons p0 (pss_cons p1 (pss_cons p2 (pss_cons p3 (pss_cons p4 (pss_cons p5 (pss_cons p6 (pss_cons p7 (pss_cons p8 (pss_one (ps_ret pe_bl))))))))))), ?_⟩
    refine ra _ H a _ fun v1 G1 s1 => ?_
    refine rb _ G1 a v1 _ (tb.ext s1) fun v2 G2 e2 tb2 => ?_
    refine rc _ G2 a v2 _ tb2 fun G3 e3 tb3 => ?_
    exact re _ G3 a ns v2 (ext_seq (e2.trans e3) (s1.seq hS)) hl tb3 fun σ G' => k G'
end
end K2
set_option Elab.async false
set_option linter.all false
set_option maxRecDepth 100000
set_option maxHeartbeats 4000000
namespace K2
open PySem L2 Gd PySem.ExG LamX
set_option exponentiation.threshold 10000
/-- which errors «except S» names -/
theorem exm_is {K : PySem.W.Frag} {C S : Addr} {b : Bool} (h1 : PySem.W.subIn K (.ref S) (.type "BaseException") = some true) (h2 : PySem.W.isClsIn K S = true)
    (h3 : PySem.W.typeIn K (.ref S) = some (.type "type")) (h4 : PySem.W.subIn K (.ref C) (.ref S) = some b) : PySem.W.exmOne K (.ref C) (.ref S) = some b := by
  have e1 : (PySem.W.subIn K (.ref S) (.type "BaseException") == some true) = true := by rw [h1] <;> rfl
  have e2 : ((PySem.W.clsIn K S).isSome && PySem.W.typeIn K (.ref S) == some (.type "type")) = true := by
    have h2' : (PySem.W.clsIn K S).isSome = true := h2
    rw [h2', h3] <;> rfl
  show (if (PySem.W.subIn K (.ref S) (.type "BaseException") == some true) = true then
    (if ((PySem.W.clsIn K S).isSome && PySem.W.typeIn K (.ref S) == some (.type "type")) = true then PySem.W.subIn K (.ref C) (.ref S) else none) else none) = some b
  rw [if_pos e1, if_pos e2]
  exact h4
theorem at_mk {K : PySem.W.Frag} {h : Heap} {mg : Str → Option Value} {x : Str} {st : Stmt} {ps : List Str} {f : Addr} {oc : Value} {od an : Option Addr} {osl : Array (Option Value)} {kV doc pm cdv ct : Value}
    (X : K.In h) (G : h.Ns mainGlobals mg) (a : PySem.W.nsIn K mainGlobals x = some (some (.ref f)))
    (l : K.lookup f = some ⟨oc, od, .func (PySem.W.fnOf x x (defArgs st) (defBody st) (defScope st) .none kV doc pm an cdv ct), osl⟩) (c : PySem.W.codeIn K cdv x = true) (k : PySem.W.keepIn K (.ref f) = true)
    (hb : ∀ (kV doc pm : Value) (an : Option Addr) (cdv ct : Value) (us : List Value), us.length = ps.length → bindArgs (PySem.W.fnOf x x (defArgs st) (defBody st) (defScope st) .none kV doc pm an cdv ct) ⟨us, []⟩ = pure (ps.zip us)) :
    At K mg x st ps f (PySem.W.fnOf x x (defArgs st) (defBody st) (defScope st) .none kV doc pm an cdv ct) :=
  have F := fun_mk (st := st) l c k
  ⟨F, PySem.W.mg_of X G a, F.binds hb⟩
def csT : List (Addr × Addr) := [(232, 228), (239, 235)]
def tsT : List (Addr × Str) := [(228, qB), (235, qL)]

theorem all_mk {pr : Program} {w : World} {K : PySem.W.Frag} {h : Heap} {mg : Str → Option Value} {fa : Addr} {C fI ccC cdaC TEC CN fJ ccCN cdaCN TECN : Addr} (X : K.In h) (G : h.Ns mainGlobals mg) (hfa : mg "law" = some (.ref fa))
    {f1 f2 f3 f4 f5 f6 f7 f8 f9 f10 f11 f12 f13 f14 f15 f16 f17 f18 f19 f20 f21 : Addr}
    {od1 an1 od2 an2 od3 an3 od4 an4 od5 an5 od6 an6 od7 an7 od8 an8 od9 an9 od10 an10 od11 an11 od12 an12 od13 an13 od14 an14 od15 an15 od16 an16 od17 an17 od18 an18 od19 an19 od20 an20 od21 an21 : Option Addr} {sl1 sl2 sl3 sl4 sl5 sl6 sl7 sl8 sl9 sl10 sl11 sl12 sl13 sl14 sl15 sl16 sl17 sl18 sl19 sl20 sl21 : Array (Option Value)}
    {oc1 kV1 dc1 pm1 cd1 ct1 oc2 kV2 dc2 pm2 cd2 ct2 oc3 kV3 dc3 pm3 cd3 ct3 oc4 kV4 dc4 pm4 cd4 ct4 oc5 kV5 dc5 pm5 cd5 ct5 oc6 kV6 dc6 pm6 cd6 ct6 oc7 kV7 dc7 pm7 cd7 ct7 oc8 kV8 dc8 pm8 cd8 ct8 oc9 kV9 dc9 pm9 cd9 ct9 oc10 kV10 dc10 pm10 cd10 ct10 oc11 kV11 dc11 pm11 cd11 ct11 oc12 kV12 dc12 pm12 cd12 ct12 oc13 kV13 dc13 pm13 cd13 ct13 oc14 kV14 dc14 pm14 cd14 ct14 oc15 kV15 dc15 pm15 cd15 ct15 oc16 kV16 dc16 pm16 cd16 ct16 oc17 kV17 dc17 pm17 cd17 ct17 oc18 kV18 dc18 pm18 cd18 ct18 oc19 kV19 dc19 pm19 cd19 ct19 oc20 kV20 dc20 pm20 ct20 oc21 kV21 dc21 pm21 ct21 : Value}
    {tH tT tG : Tok}
    {tfC : Tok} {nmC qC : Str} {NC : Addr} {bsC : List Value} {snC : List Str} {subC : List Value} {abC : Bool} {colC : Option Bool} {ddC : Option Addr} {m0C m1C m2C m3C m5C : Option Value}
    {ocC docC pmC ctC clC cclC : Value} {odC anC cldC cddC : Option Addr} {slC cslC ccsC : Array (Option Value)} {vsC : Array Value} {fileC : Str}
    {tfCN : Tok} {nmCN qCN : Str} {NCN : Addr} {bsCN : List Value} {snCN : List Str} {subCN : List Value} {abCN : Bool} {colCN : Option Bool} {ddCN : Option Addr} {m0CN m1CN m2CN m3CN m5CN : Option Value}
    {ocCN docCN pmCN ctCN clCN cclCN : Value} {odCN anCN cldCN cddCN : Option Addr} {slCN cslCN ccsCN : Array (Option Value)} {vsCN : Array Value} {fileCN : Str}
    (a1 : PySem.W.nsIn K mainGlobals "is_whole" = some (some (.ref f1)))
    (l1 : K.lookup f1 = some ⟨oc1, od1, .func (PySem.W.fnOf "is_whole" "is_whole" (defArgs sWh) (defBody sWh) (defScope sWh) .none kV1 dc1 pm1 an1 cd1 ct1), sl1⟩)
    (c1 : PySem.W.codeIn K cd1 "is_whole" = true)
    (k1 : PySem.W.keepIn K (.ref f1) = true)
    (a2 : PySem.W.nsIn K mainGlobals "is_between" = some (some (.ref f2)))
    (l2 : K.lookup f2 = some ⟨oc2, od2, .func (PySem.W.fnOf "is_between" "is_between" (defArgs sBet) (defBody sBet) (defScope sBet) .none kV2 dc2 pm2 an2 cd2 ct2), sl2⟩)
    (c2 : PySem.W.codeIn K cd2 "is_between" = true)
    (k2 : PySem.W.keepIn K (.ref f2) = true)
    (a3 : PySem.W.nsIn K mainGlobals "is_gap" = some (some (.ref f3)))
    (l3 : K.lookup f3 = some ⟨oc3, od3, .func (PySem.W.fnOf "is_gap" "is_gap" (defArgs sGap) (defBody sGap) (defScope sGap) .none kV3 dc3 pm3 an3 cd3 ct3), sl3⟩)
    (c3 : PySem.W.codeIn K cd3 "is_gap" = true)
    (k3 : PySem.W.keepIn K (.ref f3) = true)
    (a4 : PySem.W.nsIn K mainGlobals "need_plan" = some (some (.ref f4)))
    (l4 : K.lookup f4 = some ⟨oc4, od4, .func (PySem.W.fnOf "need_plan" "need_plan" (defArgs sNeed) (defBody sNeed) (defScope sNeed) .none kV4 dc4 pm4 an4 cd4 ct4), sl4⟩)
    (c4 : PySem.W.codeIn K cd4 "need_plan" = true)
    (k4 : PySem.W.keepIn K (.ref f4) = true)
    (a5 : PySem.W.nsIn K mainGlobals "need_number" = some (some (.ref f5)))
    (l5 : K.lookup f5 = some ⟨oc5, od5, .func (PySem.W.fnOf "need_number" "need_number" (defArgs sNum) (defBody sNum) (defScope sNum) .none kV5 dc5 pm5 an5 cd5 ct5), sl5⟩)
    (c5 : PySem.W.codeIn K cd5 "need_number" = true)
    (k5 : PySem.W.keepIn K (.ref f5) = true)
    (a6 : PySem.W.nsIn K mainGlobals "share_of" = some (some (.ref f6)))
    (l6 : K.lookup f6 = some ⟨oc6, od6, .func (PySem.W.fnOf "share_of" "share_of" (defArgs sShare) (defBody sShare) (defScope sShare) .none kV6 dc6 pm6 an6 cd6 ct6), sl6⟩)
    (c6 : PySem.W.codeIn K cd6 "share_of" = true)
    (k6 : PySem.W.keepIn K (.ref f6) = true)
    (a7 : PySem.W.nsIn K mainGlobals "how_many" = some (some (.ref f7)))
    (l7 : K.lookup f7 = some ⟨oc7, od7, .func (PySem.W.fnOf "how_many" "how_many" (defArgs sMany) (defBody sMany) (defScope sMany) .none kV7 dc7 pm7 an7 cd7 ct7), sl7⟩)
    (c7 : PySem.W.codeIn K cd7 "how_many" = true)
    (k7 : PySem.W.keepIn K (.ref f7) = true)
    (a8 : PySem.W.nsIn K mainGlobals "with_gap" = some (some (.ref f8)))
    (l8 : K.lookup f8 = some ⟨oc8, od8, .func (PySem.W.fnOf "with_gap" "with_gap" (defArgs sWith) (defBody sWith) (defScope sWith) .none kV8 dc8 pm8 an8 cd8 ct8), sl8⟩)
    (c8 : PySem.W.codeIn K cd8 "with_gap" = true)
    (k8 : PySem.W.keepIn K (.ref f8) = true)
    (a9 : PySem.W.nsIn K mainGlobals "without" = some (some (.ref f9)))
    (l9 : K.lookup f9 = some ⟨oc9, od9, .func (PySem.W.fnOf "without" "without" (defArgs sWo) (defBody sWo) (defScope sWo) .none kV9 dc9 pm9 an9 cd9 ct9), sl9⟩)
    (c9 : PySem.W.codeIn K cd9 "without" = true)
    (k9 : PySem.W.keepIn K (.ref f9) = true)
    (a10 : PySem.W.nsIn K mainGlobals "_law_begun" = some (some (.ref f10)))
    (l10 : K.lookup f10 = some ⟨oc10, od10, .func (PySem.W.fnOf "_law_begun" "_law_begun" (defArgs sBegun) (defBody sBegun) (defScope sBegun) .none kV10 dc10 pm10 an10 cd10 ct10), sl10⟩)
    (c10 : PySem.W.codeIn K cd10 "_law_begun" = true)
    (k10 : PySem.W.keepIn K (.ref f10) = true)
    (a11 : PySem.W.nsIn K mainGlobals "_law_draw" = some (some (.ref f11)))
    (l11 : K.lookup f11 = some ⟨oc11, od11, .func (PySem.W.fnOf "_law_draw" "_law_draw" (defArgs sDraw) (defBody sDraw) (defScope sDraw) .none kV11 dc11 pm11 an11 cd11 ct11), sl11⟩)
    (c11 : PySem.W.codeIn K cd11 "_law_draw" = true)
    (k11 : PySem.W.keepIn K (.ref f11) = true)
    (a12 : PySem.W.nsIn K mainGlobals "_law_of" = some (some (.ref f12)))
    (l12 : K.lookup f12 = some ⟨oc12, od12, .func (PySem.W.fnOf "_law_of" "_law_of" (defArgs sOf) (defBody sOf) (defScope sOf) .none kV12 dc12 pm12 an12 cd12 ct12), sl12⟩)
    (c12 : PySem.W.codeIn K cd12 "_law_of" = true)
    (k12 : PySem.W.keepIn K (.ref f12) = true)
    (a13 : PySem.W.nsIn K mainGlobals "_law_lowest" = some (some (.ref f13)))
    (l13 : K.lookup f13 = some ⟨oc13, od13, .func (PySem.W.fnOf "_law_lowest" "_law_lowest" (defArgs sLow) (defBody sLow) (defScope sLow) .none kV13 dc13 pm13 an13 cd13 ct13), sl13⟩)
    (c13 : PySem.W.codeIn K cd13 "_law_lowest" = true)
    (k13 : PySem.W.keepIn K (.ref f13) = true)
    (a14 : PySem.W.nsIn K mainGlobals "_law_sum" = some (some (.ref f14)))
    (l14 : K.lookup f14 = some ⟨oc14, od14, .func (PySem.W.fnOf "_law_sum" "_law_sum" (defArgs sSum) (defBody sSum) (defScope sSum) .none kV14 dc14 pm14 an14 cd14 ct14), sl14⟩)
    (c14 : PySem.W.codeIn K cd14 "_law_sum" = true)
    (k14 : PySem.W.keepIn K (.ref f14) = true)
    (a15 : PySem.W.nsIn K mainGlobals "_law_product" = some (some (.ref f15)))
    (l15 : K.lookup f15 = some ⟨oc15, od15, .func (PySem.W.fnOf "_law_product" "_law_product" (defArgs sProd) (defBody sProd) (defScope sProd) .none kV15 dc15 pm15 an15 cd15 ct15), sl15⟩)
    (c15 : PySem.W.codeIn K cd15 "_law_product" = true)
    (k15 : PySem.W.keepIn K (.ref f15) = true)
    (a16 : PySem.W.nsIn K mainGlobals "_law_drawn" = some (some (.ref f16)))
    (l16 : K.lookup f16 = some ⟨oc16, od16, .func (PySem.W.fnOf "_law_drawn" "_law_drawn" (defArgs sDrawn) (defBody sDrawn) (defScope sDrawn) .none kV16 dc16 pm16 an16 cd16 ct16), sl16⟩)
    (c16 : PySem.W.codeIn K cd16 "_law_drawn" = true)
    (k16 : PySem.W.keepIn K (.ref f16) = true)
    (a17 : PySem.W.nsIn K mainGlobals "_law_said" = some (some (.ref f17)))
    (l17 : K.lookup f17 = some ⟨oc17, od17, .func (PySem.W.fnOf "_law_said" "_law_said" (defArgs sSaid) (defBody sSaid) (defScope sSaid) .none kV17 dc17 pm17 an17 cd17 ct17), sl17⟩)
    (c17 : PySem.W.codeIn K cd17 "_law_said" = true)
    (k17 : PySem.W.keepIn K (.ref f17) = true)
    (a18 : PySem.W.nsIn K mainGlobals "_law_is_int" = some (some (.ref f18)))
    (l18 : K.lookup f18 = some ⟨oc18, od18, .func (PySem.W.fnOf "_law_is_int" "_law_is_int" (defArgs sIsInt) (defBody sIsInt) (defScope sIsInt) .none kV18 dc18 pm18 an18 cd18 ct18), sl18⟩)
    (c18 : PySem.W.codeIn K cd18 "_law_is_int" = true)
    (k18 : PySem.W.keepIn K (.ref f18) = true)
    (a19 : PySem.W.nsIn K mainGlobals "_law_any" = some (some (.ref f19)))
    (l19 : K.lookup f19 = some ⟨oc19, od19, .func (PySem.W.fnOf "_law_any" "_law_any" (defArgs sAny) (defBody sAny) (defScope sAny) .none kV19 dc19 pm19 an19 cd19 ct19), sl19⟩)
    (c19 : PySem.W.codeIn K cd19 "_law_any" = true)
    (k19 : PySem.W.keepIn K (.ref f19) = true)
    (a20 : PySem.W.nsIn K mainGlobals "_law_bent_right" = some (some (.ref f20)))
    (l20 : K.lookup f20 = some ⟨oc20, od20, .func (PySem.W.fnOf "_law_bent_right" "_law_bent_right" (defArgs sBent) (defBody sBent) (defScope sBent) .none kV20 dc20 pm20 an20 (.ref 232) ct20), sl20⟩)
    (c20 : PySem.W.codeIn K (.ref 232) "_law_bent_right" = true)
    (k20 : PySem.W.keepIn K (.ref f20) = true)
    (a21 : PySem.W.nsIn K mainGlobals "law" = some (some (.ref f21)))
    (l21 : K.lookup f21 = some ⟨oc21, od21, .func (PySem.W.fnOf "law" "law" (defArgs sLaw) (defBody sLaw) (defScope sLaw) .none kV21 dc21 pm21 an21 (.ref 239) ct21), sl21⟩)
    (c21 : PySem.W.codeIn K (.ref 239) "law" = true)
    (k21 : PySem.W.keepIn K (.ref f21) = true)
    (z_isinstance : PySem.W.nsIn K mainGlobals "isinstance" = some none)
    (z_int : PySem.W.nsIn K mainGlobals "int" = some none)
    (z_bool : PySem.W.nsIn K mainGlobals "bool" = some none)
    (z_tuple : PySem.W.nsIn K mainGlobals "tuple" = some none)
    (z_len : PySem.W.nsIn K mainGlobals "len" = some none)
    (z_enumerate : PySem.W.nsIn K mainGlobals "enumerate" = some none)
    (z_repr : PySem.W.nsIn K mainGlobals "repr" = some none)
    (z_range : PySem.W.nsIn K mainGlobals "range" = some none)
    (z_list : PySem.W.nsIn K mainGlobals "list" = some none)
    (z_min : PySem.W.nsIn K mainGlobals "min" = some none)
    (gcd : PySem.W.nsIn K mainGlobals "gcd" = some (some (.builtin "math.gcd")))
    (mH : PySem.W.nsIn K mainGlobals "MOST_HANDS" = some (some (.int 3 tH)))
    (mT : PySem.W.nsIn K mainGlobals "MOST_THINGS" = some (some (.int 8 tT)))
    (mG : PySem.W.nsIn K mainGlobals "MOST_GAP" = some (some (.int (10 ^ 30) tG)))
    (aCC : PySem.W.nsIn K mainGlobals "BadPlan" = some (some (.ref C)))
    (xLC : K.lookup C = some (excClassObj nmC qC C NC bsC [.ref TEC, .type "ValueError", .type "Exception", .type "BaseException", .type "object"] true snC subC abC colC ddC m0C m1C m2C m3C m5C "ValueError.__new__"))
    (saC : PySem.W.findIn K (.ref C) "__setattr__" = some (some (.builtin "object.__setattr__")))
    (gaC : PySem.W.findIn K (.ref C) "__getattribute__" = some (some (.builtin "BaseException.__getattribute__")))
    (ggC : PySem.W.findIn K (.ref C) "__getattr__" = some none)
    (nbC : PySem.W.findIn K (.ref C) "place" = some none)
    (aIC : PySem.W.findIn K (.ref C) "__init__" = some (some (.ref fI)))
    (tIC : PySem.W.typeIn K (.ref fI) = some (.type "function"))
    (lIC : K.lookup fI = some ⟨ocC, odC, .func (PySem.W.ksFn "__init__" "BadPlan.__init__" (eA "place" ⟨⟨7, 17, 7, 21⟩, ⟨7, 23, 7, 28⟩, ⟨8, 8, 8, 13⟩, ⟨8, 8, 8, 15⟩, ⟨8, 8, 8, 24⟩, ⟨8, 25, 8, 42⟩, ⟨8, 8, 8, 43⟩, ⟨8, 8, 8, 43⟩, ⟨9, 8, 9, 12⟩, ⟨9, 8, 9, 18⟩, ⟨9, 21, 9, 26⟩, ⟨9, 8, 9, 26⟩⟩) (eB "place" "this is no plan" ⟨⟨7, 17, 7, 21⟩, ⟨7, 23, 7, 28⟩, ⟨8, 8, 8, 13⟩, ⟨8, 8, 8, 15⟩, ⟨8, 8, 8, 24⟩, ⟨8, 25, 8, 42⟩, ⟨8, 8, 8, 43⟩, ⟨8, 8, 8, 43⟩, ⟨9, 8, 9, 12⟩, ⟨9, 8, 9, 18⟩, ⟨9, 21, 9, 26⟩, ⟨9, 8, 9, 26⟩⟩) (eS "place") .none .none docC pmC anC (.ref cdaC) ctC ccC), slC⟩)
    (cIC : PySem.W.codeIn K (.ref cdaC) "BadPlan.__init__" = true)
    (lcC : K.lookup ccC = some ⟨clC, cldC, .cell (some (.ref C)), cslC⟩)
    (ldC : K.lookup cdaC = some ⟨cclC, cddC, .fields vsC, ccsC⟩)
    (lvC : vsC[2]? = some (.str fileC tfC))
    (lfC : ((pr.main.file : Str) == fileC) = true)
    (tpC : (pr.main.scope.names.lookup ("super" : Str)).isSome = false)
    (kCC : PySem.W.keepIn K (.ref C) = true)
    (eCC : PySem.W.subIn K (.ref C) (.type "BaseException") = some true)
    (tCC : PySem.W.typeIn K (.ref C) = some (.type "type"))
    (hCC : PySem.W.hasDictIn K C = true)
    (iCC : PySem.W.isClsIn K C = true)
    (sCC : PySem.W.subIn K (.ref C) (.ref C) = some true)
    (suC : PySem.W.ks_superIn K C C "__init__" = some (some (.builtin "ValueError.__init__")))
    (sVC : PySem.W.subIn K (.ref C) (.type "ValueError") = some true)
    (mCC : PySem.W.mroIn K C (.ref C) = some true)
    (aCCN : PySem.W.nsIn K mainGlobals "BadNumber" = some (some (.ref CN)))
    (xLCN : K.lookup CN = some (excClassObj nmCN qCN CN NCN bsCN [.ref TECN, .type "ValueError", .type "Exception", .type "BaseException", .type "object"] true snCN subCN abCN colCN ddCN m0CN m1CN m2CN m3CN m5CN "ValueError.__new__"))
    (saCN : PySem.W.findIn K (.ref CN) "__setattr__" = some (some (.builtin "object.__setattr__")))
    (gaCN : PySem.W.findIn K (.ref CN) "__getattribute__" = some (some (.builtin "BaseException.__getattribute__")))
    (ggCN : PySem.W.findIn K (.ref CN) "__getattr__" = some none)
    (nbCN : PySem.W.findIn K (.ref CN) "value" = some none)
    (aICN : PySem.W.findIn K (.ref CN) "__init__" = some (some (.ref fJ)))
    (tICN : PySem.W.typeIn K (.ref fJ) = some (.type "function"))
    (lICN : K.lookup fJ = some ⟨ocCN, odCN, .func (PySem.W.ksFn "__init__" "BadNumber.__init__" (eA "value" ⟨⟨12, 17, 12, 21⟩, ⟨12, 23, 12, 28⟩, ⟨13, 8, 13, 13⟩, ⟨13, 8, 13, 15⟩, ⟨13, 8, 13, 24⟩, ⟨13, 25, 13, 64⟩, ⟨13, 8, 13, 65⟩, ⟨13, 8, 13, 65⟩, ⟨14, 8, 14, 12⟩, ⟨14, 8, 14, 18⟩, ⟨14, 21, 14, 26⟩, ⟨14, 8, 14, 26⟩⟩) (eB "value" "this is no number that can stand here" ⟨⟨12, 17, 12, 21⟩, ⟨12, 23, 12, 28⟩, ⟨13, 8, 13, 13⟩, ⟨13, 8, 13, 15⟩, ⟨13, 8, 13, 24⟩, ⟨13, 25, 13, 64⟩, ⟨13, 8, 13, 65⟩, ⟨13, 8, 13, 65⟩, ⟨14, 8, 14, 12⟩, ⟨14, 8, 14, 18⟩, ⟨14, 21, 14, 26⟩, ⟨14, 8, 14, 26⟩⟩) (eS "value") .none .none docCN pmCN anCN (.ref cdaCN) ctCN ccCN), slCN⟩)
    (cICN : PySem.W.codeIn K (.ref cdaCN) "BadNumber.__init__" = true)
    (lcCN : K.lookup ccCN = some ⟨clCN, cldCN, .cell (some (.ref CN)), cslCN⟩)
    (ldCN : K.lookup cdaCN = some ⟨cclCN, cddCN, .fields vsCN, ccsCN⟩)
    (lvCN : vsCN[2]? = some (.str fileCN tfCN))
    (lfCN : ((pr.main.file : Str) == fileCN) = true)
    (tpCN : (pr.main.scope.names.lookup ("super" : Str)).isSome = false)
    (kCCN : PySem.W.keepIn K (.ref CN) = true)
    (eCCN : PySem.W.subIn K (.ref CN) (.type "BaseException") = some true)
    (tCCN : PySem.W.typeIn K (.ref CN) = some (.type "type"))
    (hCCN : PySem.W.hasDictIn K CN = true)
    (iCCN : PySem.W.isClsIn K CN = true)
    (sCCN : PySem.W.subIn K (.ref CN) (.ref CN) = some true)
    (suCN : PySem.W.ks_superIn K CN CN "__init__" = some (some (.builtin "ValueError.__init__")))
    (sVCN : PySem.W.subIn K (.ref CN) (.type "ValueError") = some true)
    (mCCN : PySem.W.mroIn K CN (.ref CN) = some true)
    (ap : PySem.W.subIn K (.ref C) (.ref CN) = some false)
    (op : PySem.W.nsIn K cStatics "thirdparty.any" = some none)
    (ns : PySem.W.nsIn K mainGlobals "super" = some none)
    : ∃ fd : FuncData, (∀ (s : Shared) (v : Value), BindsTo s fd ⟨[v], []⟩ [("script", v)]) ∧ ∀ base : Heap, K.In base → base.Ns mainGlobals mg → (∃ o, base.get? sysModules = some o) → (∀ p ∈ csT, TabB base mg p.1 p.2) → FnG pr w K mg base CX0 9 fa fd ["script"] (spLaw K tsT) := by
  have e := hfa.symm.trans (PySem.W.mg_of X G a21)
  cases e
  have A1 := at_mk (st := sWh) (ps := ["value"]) X G a1 l1 c1 k1 (fun _ _ _ _ _ _ us hl => match us, hl with | [_], _ => rfl)
  have A2 := at_mk (st := sBet) (ps := ["value", "low", "high"]) X G a2 l2 c2 k2 (fun _ _ _ _ _ _ us hl => match us, hl with | [_, _, _], _ => rfl)
  have A3 := at_mk (st := sGap) (ps := ["value"]) X G a3 l3 c3 k3 (fun _ _ _ _ _ _ us hl => match us, hl with | [_], _ => rfl)
  have A4 := at_mk (st := sNeed) (ps := ["thing"]) X G a4 l4 c4 k4 (fun _ _ _ _ _ _ us hl => match us, hl with | [_], _ => rfl)
  have A5 := at_mk (st := sNum) (ps := ["gaps", "number"]) X G a5 l5 c5 k5 (fun _ _ _ _ _ _ us hl => match us, hl with | [_, _], _ => rfl)
  have A6 := at_mk (st := sShare) (ps := ["plan"]) X G a6 l6 c6 k6 (fun _ _ _ _ _ _ us hl => match us, hl with | [_], _ => rfl)
  have A7 := at_mk (st := sMany) (ps := ["plan"]) X G a7 l7 c7 k7 (fun _ _ _ _ _ _ us hl => match us, hl with | [_], _ => rfl)
  have A8 := at_mk (st := sWith) (ps := ["plan", "number", "gap"]) X G a8 l8 c8 k8 (fun _ _ _ _ _ _ us hl => match us, hl with | [_, _, _], _ => rfl)
  have A9 := at_mk (st := sWo) (ps := ["plan", "number"]) X G a9 l9 c9 k9 (fun _ _ _ _ _ _ us hl => match us, hl with | [_, _], _ => rfl)
  have A10 := at_mk (st := sBegun) (ps := ["script", "k"]) X G a10 l10 c10 k10 (fun _ _ _ _ _ _ us hl => match us, hl with | [_, _], _ => rfl)
  have A11 := at_mk (st := sDraw) (ps := ["m", "many"]) X G a11 l11 c11 k11 (fun _ _ _ _ _ _ us hl => match us, hl with | [_, _], _ => rfl)
  have A12 := at_mk (st := sOf) (ps := ["m", "some"]) X G a12 l12 c12 k12 (fun _ _ _ _ _ _ us hl => match us, hl with | [_, _], _ => rfl)
  have A13 := at_mk (st := sLow) (ps := ["near", "far"]) X G a13 l13 c13 k13 (fun _ _ _ _ _ _ us hl => match us, hl with | [_, _], _ => rfl)
  have A14 := at_mk (st := sSum) (ps := ["sheet"]) X G a14 l14 c14 k14 (fun _ _ _ _ _ _ us hl => match us, hl with | [_], _ => rfl)
  have A15 := at_mk (st := sProd) (ps := ["sheet"]) X G a15 l15 c15 k15 (fun _ _ _ _ _ _ us hl => match us, hl with | [_], _ => rfl)
  have A16 := at_mk (st := sDrawn) (ps := ["m"]) X G a16 l16 c16 k16 (fun _ _ _ _ _ _ us hl => match us, hl with | [_], _ => rfl)
  have A17 := at_mk (st := sSaid) (ps := ["call"]) X G a17 l17 c17 k17 (fun _ _ _ _ _ _ us hl => match us, hl with | [_], _ => rfl)
  have A18 := at_mk (st := sIsInt) (ps := ["thing", "least", "most"]) X G a18 l18 c18 k18 (fun _ _ _ _ _ _ us hl => match us, hl with | [_, _, _], _ => rfl)
  have A19 := at_mk (st := sAny) (ps := ["m", "frame"]) X G a19 l19 c19 k19 (fun _ _ _ _ _ _ us hl => match us, hl with | [_, _], _ => rfl)
  have A20 := at_mk (st := sBent) (ps := ["m", "frame"]) X G a20 l20 c20 k20 (fun _ _ _ _ _ _ us hl => match us, hl with | [_, _], _ => rfl)
  have A21 := at_mk (st := sLaw) (ps := ["script"]) X G a21 l21 c21 k21 (fun _ _ _ _ _ _ us hl => match us, hl with | [_], _ => rfl)
  have Z_isinstance := PySem.W.mg_none_of X G z_isinstance
  have Z_int := PySem.W.mg_none_of X G z_int
  have Z_bool := PySem.W.mg_none_of X G z_bool
  have Z_tuple := PySem.W.mg_none_of X G z_tuple
  have Z_len := PySem.W.mg_none_of X G z_len
  have Z_enumerate := PySem.W.mg_none_of X G z_enumerate
  have Z_repr := PySem.W.mg_none_of X G z_repr
  have Z_range := PySem.W.mg_none_of X G z_range
  have Z_list := PySem.W.mg_none_of X G z_list
  have Z_min := PySem.W.mg_none_of X G z_min
  have exC : ExTxt pr K mg "BadPlan" "place" "this is no plan" C fI :=
    { gC := PySem.W.mg_of X G aCC, cls := ⟨nmC, qC, NC, bsC, _, snC, subC, abC, colC, ddC, m0C, m1C, m2C, m3C, m5C, xLC, by first | rfl | decide⟩, sa := saC, ga := gaC, gg := ggC, noN := nbC, iC := aIC, tC := tIC, kC := kCC, exC := eCC, tyC := tCC, hdC := hCC,
      te := exm_is eCC iCC tCC sCC, sup := suC, subV := sVC, subm := mCC, opq := op, nos := ns, top := tpC,
      fn := ⟨_, _, _, _, _, _, _, _, _, _, _, _, _, _, _, _, _, _, _, _, lIC, cIC, by rfl, lcC, ldC, lvC, lfC⟩,
      kf := by decide +kernel, ks := by decide +kernel, kc := by decide +kernel, fdb := by decide +kernel, fse := by decide +kernel, bnd := fun _ _ _ _ _ _ _ _ _ _ => by rfl }
  have exCN : ExTxt pr K mg "BadNumber" "value" "this is no number that can stand here" CN fJ :=
    { gC := PySem.W.mg_of X G aCCN, cls := ⟨nmCN, qCN, NCN, bsCN, _, snCN, subCN, abCN, colCN, ddCN, m0CN, m1CN, m2CN, m3CN, m5CN, xLCN, by first | rfl | decide⟩, sa := saCN, ga := gaCN, gg := ggCN, noN := nbCN, iC := aICN, tC := tICN, kC := kCCN, exC := eCCN, tyC := tCCN, hdC := hCCN,
      te := exm_is eCCN iCCN tCCN sCCN, sup := suCN, subV := sVCN, subm := mCCN, opq := op, nos := ns, top := tpCN,
      fn := ⟨_, _, _, _, _, _, _, _, _, _, _, _, _, _, _, _, _, _, _, _, lICN, cICN, by rfl, lcCN, ldCN, lvCN, lfCN⟩,
      kf := by decide +kernel, ks := by decide +kernel, kc := by decide +kernel, fdb := by decide +kernel, fse := by decide +kernel, bnd := fun _ _ _ _ _ _ _ _ _ _ => by rfl }
  have txi : TxI mg := ⟨Z_isinstance, Z_int, Z_bool⟩
  have txt : Txt K mg := ⟨Z_int, Z_len⟩
  have tn := TxN.mk (K := K) (pr := pr) txi Z_tuple Z_len Z_enumerate ⟨tH, PySem.W.mg_of X G mH⟩ ⟨tT, PySem.W.mg_of X G mT⟩ ⟨tG, PySem.W.mg_of X G mG⟩ ⟨_, _, A1⟩ A2 A3 exC
  have tp := TxP.mk tn exCN A4 A5 (PySem.W.mg_of X G gcd)
  have td := TxD.mk txt A11
  have to := TxO.mk td A12 Z_tuple Z_range Z_list
  have tb := TxB.mk tp to A8 A9 A19 A17 A18 Z_repr ⟨exm_is eCCN iCCN tCCN ap⟩
  have T := TxW.mk tb A6 A7 A10 (TxL.mk txt A13) A14 A15 A16 Z_min
  refine ⟨PySem.W.fnOf "law" "law" (defArgs sLaw) (defBody sLaw) (defScope sLaw) .none kV21 dc21 pm21 an21 (.ref 239) ct21, fun s v => .of_eq rfl, fun base _ _ sy tt => ?_⟩
  have GBe := ok_bent (w := w) (base := base) (Ts := tsT) l20 c20 tb sy (tt (232, 228) (by simp [csT])) (by simp [tsT]) (by intro p hp; simp only [tsT, List.mem_cons, List.not_mem_nil, or_false] at hp; rcases hp with rfl | rfl <;> intro z <;> first | (exact absurd z (by decide)) | rfl)
  exact ok_law (Ts := tsT) l21 c21 T sy (tt (239, 235) (by simp [csT])) (by simp [tsT]) (by intro p hp; simp only [tsT, List.mem_cons, List.not_mem_nil, or_false] at hp; rcases hp with rfl | rfl <;> intro z <;> first | (exact absurd z (by decide)) | rfl) GBe A20
end K2
open PySem PySem.W PyProof.Rows
set_option maxRecDepth 100000 in
set_option maxHeartbeats 0 in
theorem PySem.Challenge.cw_oftenenough_k02_whole_shares_and_sizes_holds : PySem.Challenge.rw_oftenenough_k02_whole_shares_and_sizes.Holds := by
  w_on; o_law; k_head; (case hw => w_witness2)
  k_fill
  refine Gd.walkT (l := PySem.Challenge.rw_oftenenough_k02_whole_shares_and_sizes) (n := 63) (k := 9) (x := "script") (cs := K2.csT) (sp := fun w => K2.spLaw (_ : PySem.W.Frag) K2.tsT) (by first | rfl | decide +kernel) rfl (by decide) rfl ⟨rfl, by decide, by decide⟩
    (fun w h Y => ⟨PySem.W.km_in_of Y, fun p hp => ?qy⟩) (fun w p hp => ?ql) (fun w h Y X p hp => ?qc) ?F (fun w H a ns hl O hS => ⟨a, ns, rfl, hS, hl, fun p hp => ?qt, fun _ => rfl⟩)
  case qy =>
    refine PySem.W.km_tabs_of Y p.2 ?_
    simp only [K2.csT, List.mem_cons, List.not_mem_nil, or_false] at hp
    rcases hp with rfl | rfl <;> simp
  case ql =>
    simp only [K2.csT, List.mem_cons, List.not_mem_nil, or_false] at hp
    rcases hp with rfl | rfl <;> rfl
  case qc =>
    refine PySem.W.codeHd_of_K X ?_
    simp only [K2.csT, List.mem_cons, List.not_mem_nil, or_false] at hp
    rcases hp with rfl | rfl <;> rfl
  case qt =>
    refine LamX.TabS.nil (O.tb p.1 ?_)
    simp only [K2.tsT, List.mem_cons, List.not_mem_nil, or_false] at hp
    rcases hp with rfl | rfl <;> simp [K2.csT]
  case F =>
    intro w mg fa h KX G hmg
    refine' K2.all_mk KX G hmg ?a1 ?l1 ?c1 ?k1 ?a2 ?l2 ?c2 ?k2 ?a3 ?l3 ?c3 ?k3 ?a4 ?l4 ?c4 ?k4 ?a5 ?l5 ?c5 ?k5 ?a6 ?l6 ?c6 ?k6 ?a7 ?l7 ?c7 ?k7 ?a8 ?l8 ?c8 ?k8 ?a9 ?l9 ?c9 ?k9 ?a10 ?l10 ?c10 ?k10 ?a11 ?l11 ?c11 ?k11 ?a12 ?l12 ?c12 ?k12 ?a13 ?l13 ?c13 ?k13 ?a14 ?l14 ?c14 ?k14 ?a15 ?l15 ?c15 ?k15 ?a16 ?l16 ?c16 ?k16 ?a17 ?l17 ?c17 ?k17 ?a18 ?l18 ?c18 ?k18 ?a19 ?l19 ?c19 ?k19 ?a20 ?l20 ?c20 ?k20 ?a21 ?l21 ?c21 ?k21 ?z_isinstance ?z_int ?z_bool ?z_tuple ?z_len ?z_enumerate ?z_repr ?z_range ?z_list ?z_min ?gcd ?mH ?mT ?mG ?aCC ?xLC ?saC ?gaC ?ggC ?nbC ?aIC ?tIC ?lIC ?cIC ?lcC ?ldC ?lvC ?lfC ?tpC ?kCC ?eCC ?tCC ?hCC ?iCC ?sCC ?suC ?sVC ?mCC ?aCCN ?xLCN ?saCN ?gaCN ?ggCN ?nbCN ?aICN ?tICN ?lICN ?cICN ?lcCN ?ldCN ?lvCN ?lfCN ?tpCN ?kCCN ?eCCN ?tCCN ?hCCN ?iCCN ?sCCN ?suCN ?sVCN ?mCCN ?ap ?op ?ns
    (case a1 => k_is)
    (case l1 => k_is)
    (case c1 => k_is)
    (case k1 => k_is)
    (case a2 => k_is)
    (case l2 => k_is)
    (case c2 => k_is)
    (case k2 => k_is)
    (case a3 => k_is)
    (case l3 => k_is)
    (case c3 => k_is)
    (case k3 => k_is)
    (case a4 => k_is)
    (case l4 => k_is)
    (case c4 => k_is)
    (case k4 => k_is)
    (case a5 => k_is)
    (case l5 => k_is)
    (case c5 => k_is)
    (case k5 => k_is)
    (case a6 => k_is)
    (case l6 => k_is)
    (case c6 => k_is)
    (case k6 => k_is)
    (case a7 => k_is)
    (case l7 => k_is)
    (case c7 => k_is)
    (case k7 => k_is)
    (case a8 => k_is)
    (case l8 => k_is)
    (case c8 => k_is)
    (case k8 => k_is)
    (case a9 => k_is)
    (case l9 => k_is)
    (case c9 => k_is)
    (case k9 => k_is)
    (case a10 => k_is)
    (case l10 => k_is)
    (case c10 => k_is)
    (case k10 => k_is)
    (case a11 => k_is)
    (case l11 => k_is)
    (case c11 => k_is)
    (case k11 => k_is)
    (case a12 => k_is)
    (case l12 => k_is)
    (case c12 => k_is)
    (case k12 => k_is)
    (case a13 => k_is)
    (case l13 => k_is)
    (case c13 => k_is)
    (case k13 => k_is)
    (case a14 => k_is)
    (case l14 => k_is)
    (case c14 => k_is)
    (case k14 => k_is)
    (case a15 => k_is)
    (case l15 => k_is)
    (case c15 => k_is)
    (case k15 => k_is)
    (case a16 => k_is)
    (case l16 => k_is)
    (case c16 => k_is)
    (case k16 => k_is)
    (case a17 => k_is)
    (case l17 => k_is)
    (case c17 => k_is)
    (case k17 => k_is)
    (case a18 => k_is)
    (case l18 => k_is)
    (case c18 => k_is)
    (case k18 => k_is)
    (case a19 => k_is)
    (case l19 => k_is)
    (case c19 => k_is)
    (case k19 => k_is)
    (case a20 => k_is)
    (case l20 => k_is)
    (case c20 => k_is)
    (case k20 => k_is)
    (case a21 => k_is)
    (case l21 => k_is)
    (case c21 => k_is)
    (case k21 => k_is)
    (case z_isinstance => k_is)
    (case z_int => k_is)
    (case z_bool => k_is)
    (case z_tuple => k_is)
    (case z_len => k_is)
    (case z_enumerate => k_is)
    (case z_repr => k_is)
    (case z_range => k_is)
    (case z_list => k_is)
    (case z_min => k_is)
    (case gcd => k_is)
    (case mH => k_is)
    (case mT => k_is)
    (case mG => k_is)
    (case aCC => k_is)
    (case xLC => k_is)
    (case saC => k_is)
    (case gaC => k_is)
    (case ggC => k_is)
    (case nbC => k_is)
    (case aIC => k_is)
    (case tIC => k_is)
    (case lIC => k_is)
    (case cIC => k_is)
    (case lcC => k_is)
    (case ldC => k_is)
    (case lvC => rfl)
    (case lfC => (first | rfl | decide +kernel))
    (case tpC => (first | rfl | decide +kernel))
    (case kCC => k_is)
    (case eCC => k_is)
    (case tCC => k_is)
    (case hCC => k_is)
    (case iCC => k_is)
    (case sCC => (first | rfl | k_is))
    (case suC => (first | k_is | kernel_rfl))
    (case sVC => k_is)
    (case mCC => (first | rfl | k_is))
    (case aCCN => k_is)
    (case xLCN => k_is)
    (case saCN => k_is)
    (case gaCN => k_is)
    (case ggCN => k_is)
    (case nbCN => k_is)
    (case aICN => k_is)
    (case tICN => k_is)
    (case lICN => k_is)
    (case cICN => k_is)
    (case lcCN => k_is)
    (case ldCN => k_is)
    (case lvCN => rfl)
    (case lfCN => (first | rfl | decide +kernel))
    (case tpCN => (first | rfl | decide +kernel))
    (case kCCN => k_is)
    (case eCCN => k_is)
    (case tCCN => k_is)
    (case hCCN => k_is)
    (case iCCN => k_is)
    (case sCCN => (first | rfl | k_is))
    (case suCN => (first | k_is | kernel_rfl))
    (case sVCN => k_is)
    (case mCCN => (first | rfl | k_is))
    (case ap => (first | rfl | k_is))
    (case op => k_is)
    (case ns => k_is)
