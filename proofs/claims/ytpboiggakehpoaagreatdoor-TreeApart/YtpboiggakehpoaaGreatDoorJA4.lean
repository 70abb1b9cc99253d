import Derived.Test.YtpboiggakehpoaaGreatDoorJA3
namespace Go.Proofs.YtpboiggakehpoaaGreatDoor.Tr
open Go.ChangeShapes Go.WideShapes Go.ChangeAt Go.RowKit Num Go.Maps As
open Go.ChangeMaps Go.MapKept
attribute [local go_sem] run_store_float frombits_run bits_run
theorem mp_blk {w : World} {g : Nat} {F : List Nat} {M : Int} {L : Prs} (h : MpAt w g F M L) {k : Nat} (hk : k ∈ F) : ∃ (arr : Array Value) (T : TypeId), w.heap[k]? = some (.cells arr T (0, 0)) ∧ (T = 46 ∨ T = 147) := by
  obtain ⟨p, c, rfl, hb, hr⟩ := h.ex
  rcases List.mem_cons.1 hk with rfl | hk
  · exact ⟨_, _, hb, .inl rfl⟩
  · obtain ⟨arr, e⟩ := hr.blk hk
    exact ⟨_, _, e, .inr rfl⟩
theorem mp_no {w : World} {g0 : Nat} {F : List Nat} {M : Int} {L : Prs} (h : MpAt w g0 F M L) {g : Nat} {arr : Array Value} {T : TypeId} {x : Nat × Nat} (hg : w.heap[g]? = some (.cells arr T x)) (h1 : (T == 46) = false) (h2 : (T == 147) = false) : g ∉ F := fun hk => by
  obtain ⟨arr', T', h3, h4⟩ := mp_blk h hk
  rw [hg] at h3
  injection h3 with h3
  injection h3 with _ h5
  subst h5
  rcases h4 with rfl | rfl
  · simp at h1
  · simp at h2
structure Pl (W w : World) (q : Nat → Ptr) (b : Nat) (F : List Nat) (s : List Nat) (a : Int) (B R cells : Nat) (g : Nat) (G : List Nat) (L : Prs) : Prop where
  tw : TW W w q b F s a B R cells L
  mp : MpAt w g G (R : Nat) L
  sep : Sep F G
  abG : Abv W.heap.size G
section
variable {W w w' : World} {q : Nat → Ptr} {b g : Nat} {F G s : List Nat} {a : Int} {B R cells : Nat} {L : Prs}
theorem Pl.on (h : Pl W w q b F s a B R cells g G L) (k : Below w.heap.size w w') : Pl W w' q b F s a B R cells g G L := ⟨h.tw.on k, h.mp.on k, h.sep, h.abG⟩
theorem Pl.bl (h : Pl W w q b F s a B R cells g G L) : Below W.heap.size W w := h.tw.bl
theorem Pl.room (h : Pl W w q b F s a B R cells g G L) : R ≤ 16 := h.tw.lies.r.2.1
abbrev Plq (W w' : World) (q : Nat → Ptr) (b : Nat) (F s : List Nat) (a : Int) (B R cells g : Nat) (G : List Nat) (L : Prs) (w : World) : Prop := ∃ s' G', Pl W w' q b F s' a B R cells g G' L ∧ Outside s s' B cells ∧ Turn (F ++ G) (F ++ G') w w'
theorem sep_app {F G H : List Nat} (h : Sep H F) (k : Sep H G) : Sep H (F ++ G) := fun i hi q => (List.mem_append.1 q).elim (h i hi) (k i hi)
theorem TW.past {v : World} {L2 : Prs} (h : TW W w q b F s a B R cells L) {M : Int} (hm : MpAt w g G M L2) {G' : List Nat} (t : Turn G G' w v) (hs : Sep F G) (hA : Abv W.heap.size G) : TW W v q b F s a B R cells L := by
  refine ⟨h.sh, h.bl.trans (t.below hA h.bl.size), h.ab, ⟨fun i hi => ?_⟩, h.cel.turn t hs, h.ok, h.has, h.lies⟩
  have hr := h.tr.row i hi
  refine ⟨hr.1, hr.2.keep (t.kept (fun k hk => ?_) hr.2.blw)⟩
  obtain ⟨arr, e⟩ := hr.2.blk hk
  exact mp_no hm e (by decide) (by decide)
theorem Pl.no (h : Pl W w q b F s a B R cells g G L) {x : Nat} {arr : Array Value} {T : TypeId} {y : Nat × Nat} (hx : w.heap[x]? = some (.cells arr T y)) (h1 : (T == 94) = false) (h2 : (T == 74) = false) (h3 : (T == 46) = false) (h4 : (T == 147) = false) : x ∉ F ++ G := fun q => (List.mem_append.1 q).elim (cel_no h.tw.cel hx h1 h2) (mp_no h.mp hx h3 h4)
abbrev pgO2 (t : Int) (z : Ptr) : Obj := .cells #[.int .i64 t, .slice z.p z.n z.c] 26
structure Cb (n0 : Nat) (a : Int) (q : Nat → Ptr) (c : Cal) (u : World) : Prop where
  b0 : u.heap[n0]? = some (cfgO a 1 1024 8)
  b1 : u.heap[n0 + 1]? = some (tO q)
  b2 : u.heap[n0 + 2]? = some (opO c)
theorem Cb.on {n0 : Nat} {c : Cal} {u u' : World} (h : Cb n0 a q c u) (k : Below u.heap.size u u') : Cb n0 a q c u' :=
  ⟨(k.block _ (lt_of_block h.b0)).trans h.b0, (k.block _ (lt_of_block h.b1)).trans h.b1, (k.block _ (lt_of_block h.b2)).trans h.b2⟩
theorem Cb.turn {n0 : Nat} {c : Cal} {u u' : World} {H H' : List Nat} (h : Cb n0 a q c u) (k : Turn H H' u u') (hn : ∀ (x : Nat) (arr : Array Value) (T : TypeId), u.heap[x]? = some (.cells arr T (0, 0)) → T = 48 ∨ T = 28 ∨ T = 52 → x ∉ H) : Cb n0 a q c u' :=
  ⟨(k.block _ (lt_of_block h.b0) (hn _ _ _ h.b0 (.inl rfl))).trans h.b0, (k.block _ (lt_of_block h.b1) (hn _ _ _ h.b1 (.inr (.inl rfl)))).trans h.b1, (k.block _ (lt_of_block h.b2) (hn _ _ _ h.b2 (.inr (.inr rfl)))).trans h.b2⟩
theorem Cb.sc {n0 : Nat} {c : Cal} {u : World} (h : Cb n0 a q c u) : (u.cell? ⟨n0, 0, none⟩ = some (.int .i64 a) ∧ u.cell? ⟨n0, 1, none⟩ = some (.int .i64 1) ∧ u.cell? ⟨n0, 2, none⟩ = some (.int .i64 1024) ∧ u.cell? ⟨n0, 3, none⟩ = some (.int .i64 8)) ∧ u.cell? ⟨n0 + 2, 0, none⟩ = some (.int .i64 c.k) ∧ u.cell? ⟨n0 + 2, 2, none⟩ = some (.slice c.p c.l.length c.c) ∧ n0 < u.heap.size ∧ n0 + 2 < u.heap.size := by
  obtain ⟨x0, x1, x2, x3, _⟩ := Md.cells4 h.b0
  exact ⟨⟨x0, x1, x2, x3⟩, (cell_of_row _ _ 0 _ _ _ h.b2).trans rfl, (cell_of_row _ _ 2 _ _ _ h.b2).trans rfl, lt_of_block h.b0, lt_of_block h.b2⟩
theorem cb_new (w : World) (a : Int) (q : Nat → Ptr) (c : Cal) : Cb w.heap.size a q c (((w.alloc (cfgO a 1 1024 8)).alloc (tO q)).alloc (opO c)) := by
  refine ⟨?_, ?_, ?_⟩
  · exact (heap_alloc_old _ _ (by simp; omega)).trans ((heap_alloc_old _ _ (by simp)).trans (heap_alloc_new w _))
  · exact (heap_alloc_old _ _ (by simp)).trans (by have := heap_alloc_new (w.alloc (cfgO a 1 1024 8)) (tO q); rwa [World.size_alloc] at this)
  · have := heap_alloc_new ((w.alloc (cfgO a 1 1024 8)).alloc (tO q)) (opO c)
    rwa [World.size_alloc, World.size_alloc] at this
theorem three_al (w : World) (x y z : Obj) : Below w.heap.size w (((w.alloc x).alloc y).alloc z) := (two_al w x y).trans ((below_alloc _ _).mono (by simp; omega))
theorem outS_len {k : Int} {K : Nat} (h : Sorted L R) : (outS k L R K).length ≤ 2 * R + 2 := by
  have hl := h.len
  have hf : ∀ i, (fstS L i).length ≤ 2 := fun i => by unfold fstS; split <;> simp
  unfold outS
  repeat' split
  all_goals first
    | (simp only [List.length_nil, List.length_cons]; omega)
    | (unfold getS; split <;> simp only [List.length_nil, List.length_cons] <;> omega)
    | (have := hf 0; omega)
    | (unfold aftS2; have := hf (if isK L K then ahd L K + 1 else ahd L K); omega)
    | (rw [all_len]; omega)
set_option maxRecDepth 100000 in
set_option maxHeartbeats 4000000 in
theorem call_any (h : Pl W w q b F s a B R cells g G L) {c : Cal} (hc : okC c) (hb : BtAt w c.p c.l) (hk : 1 ≤ c.k ∧ c.k ≤ 7) : Calls Tryz.prog 20 #[cfgV a 1 1024 8, treeA q, .pointer (some ⟨g, 0, none⟩), .pointer (some ⟨b, 0, none⟩), .int .i64 (B : Nat), .int .i64 (cells : Nat), .agg #[.int .i64 c.k, .bool c.o, .slice c.p c.l.length c.c]] w fun e w' => e = .returned (.bool true) ∧ Hid (Plq W w' q b F s a B R cells g G (nxtS c.k L R (argF (c.l.take 8) 0) (argF (c.l.take 8) 1)) w) := by
  have HP : Hid (∀ u, _) := fun u => prog_tree q hk.1 hk.2 u
  have HH := Lib.hid h
  have HC := Lib.hid hc
  have HBT := Lib.hid hb
  have HK := Lib.hid hk
  have HN := Lib.hid (cb_new w a q c)
  have hf : (B : Int) + cells ≤ 256 := h.tw.lies.r.2.2.2
  have h16 : R ≤ 16 := h.room
  have h8 : (c.l.take 8).length ≤ 8 := by rw [List.length_take]; omega
  have hlx : ∀ x ∈ c.l.take 8, x < 18446744073709551616 := fun x hx => hc.1 x (List.mem_of_mem_take hx)
  have hso := h.tw.has.sorted
  have HRUN : Hid (∀ (u : World) (po : Option Addr) (n co : Nat), TW W u q b F s a B R cells L → (c.l.take 8).length = n → n ≤ 8 → FlAt u po (c.l.take 8) → _) := fun u po n co hu h1 h2 h4 => hu.run2 (po := po) (co := co) hk.1 hk.2 h1 h2 hlx h4
  have HSAY : Hid (∀ (u : World) (po : Option Addr) (n co : Nat), MpAt u g G (R : Nat) L → (c.l.take 8).length = n → FlAt u po (c.l.take 8) → _) := fun u po n co hu h1 h4 => says_any (po := po) (co := co) hu hso h16 hk.1 hk.2 h1 hlx h4
  obtain ⟨t, ht⟩ : ∃ t, tagS c.k = t := ⟨_, rfl⟩
  obtain ⟨z, hz⟩ : ∃ z, q (c.k - 1).toNat = z := ⟨_, rfl⟩
  rw [ht, hz] at HP
  simp only [ht, hz] at HRUN
  have hou : (outS c.k L R (argF (c.l.take 8) 0)).length ≤ 9223372036854775807 := by
    have := outS_len (k := c.k) (K := argF (c.l.take 8) 0) hso
    omega
  generalize howS c.k L R (argF (c.l.take 8) 0) = hh at *
  generalize codS c.k L R (argF (c.l.take 8) 0) = cd at *
  generalize outS c.k L R (argF (c.l.take 8) 0) = ou at *
  generalize nxtS c.k L R (argF (c.l.take 8) 0) (argF (c.l.take 8) 1) = L2 at *
  obtain ⟨nu, hnu⟩ : ∃ nu, ou.length = nu := ⟨_, rfl⟩
  have HNU := Lib.hid hnu
  rw [hnu] at hou
  simp only [hnu] at HRUN
  clear h hc hb hk ht hz hnu hso
  go_enter Tryz.func20, Tryz.ntmps20
  go_upto_region 4 with (first
    | (go_at_call 14; refine (HP.out _).mono ?_; rintro e u1 ⟨rfl, k1⟩; have K1 := Lib.hid k1; clear k1 HP))
  have hN1 := HN.out.on K1.out
  have ka := below_alloc u1 (pgO2 t z)
  have kb1 := (below_chain (three_al w _ _ _) K1.out).trans (ka.mono (Nat.le_trans (three_al w _ _ _).size K1.out.size))
  have HB1 := Lib.hid (hN1.on ka)
  have HG1 := Lib.hid (heap_alloc_new u1 (pgO2 t z))
  obtain ⟨v1, hv1⟩ : ∃ v1, v1 = u1.alloc (pgO2 t z) := ⟨_, rfl⟩
  obtain ⟨gp, hgp⟩ : ∃ gp, u1.heap.size = gp := ⟨_, rfl⟩
  rw [← hv1] at kb1 HB1 HG1 ⊢
  rw [hgp] at HG1 ⊢
  have KB1 := Lib.hid kb1
  have HP1 := Lib.hid (HH.out.on kb1)
  clear hN1 ka kb1 hv1 hgp HN K1
  obtain ⟨⟨y0, y1, y2, y3⟩, y4, y5, y6, y7⟩ := HB1.out.sc
  go_upto_region 5 with (go_at_call 23; refine (floats_any rfl (HBT.out.on KB1.out) HC.out.2).mono ?_; rintro e u2 ⟨p2, n2, c2, rfl, HF⟩)
  have HB2 := Lib.hid (HB1.out.on HF.out.2.2.2)
  have HG2 := Lib.hid ((HF.out.2.2.2.block _ (lt_of_block HG1.out)).trans HG1.out)
  have HP2 := Lib.hid (HP1.out.on HF.out.2.2.2)
  have KB2 := Lib.hid (below_chain KB1.out HF.out.2.2.2)
  have HL2 := Lib.hid (row_fl HF.out.2.1)
  have HRW := Lib.hid (And.intro HF.out.2.1 (HF.out.2.2.1.sep HP1.out.tw.cel.blw))
  have HLN : Hid ((c.l.take 8).length = n2) := by have := HF.out.1; show _ = _; rw [this, List.length_take]
  have HR2 := Lib.hid (HRUN.out u2 p2 n2 c2 HP2.out.tw HLN.out (by rw [← HLN.out]; exact h8) HL2.out)
  clear HB1 HG1 HP1 KB1 HF HRUN HBT y0 y1 y2 y3 y4 y5 y6 y7
  obtain ⟨⟨y0, y1, y2, y3⟩, y4, y5, y6, y7⟩ := HB2.out.sc
  obtain ⟨z0, z1, z2⟩ := cells2_of HG2.out
  go_upto_region 6 with (go_at_call 24; refine HR2.out.mono ?_; rintro e u3 ⟨qo, k1, qr, nr, k2, qw, nw, k3, us, rfl, hus, hnw, HZ⟩; clear HR2)
  have kr := below_alloc u3 (.cells #[.int .i64 hh, .int .i64 cd, .int .i64 0, .slice qo nu k1, .slice qr nr k2, .slice qw nw k3, .int .i64 us] 63)
  have HRB := Lib.hid (heap_alloc_new u3 (.cells #[.int .i64 hh, .int .i64 cd, .int .i64 0, .slice qo nu k1, .slice qr nr k2, .slice qw nw k3, .int .i64 us] 63))
  have HB3 := Lib.hid ((HB2.out.turn HZ.out.2.2 (fun x arr T hx hT => cel_no HP2.out.tw.cel hx (by rcases hT with rfl | rfl | rfl <;> decide) (by rcases hT with rfl | rfl | rfl <;> decide))).on kr)
  have HT3 := Lib.hid (HZ.out.2.2.trans (Below.turn kr F))
  have HM3 := Lib.hid (HP2.out.mp.turn HT3.out HP2.out.sep.symm)
  have HW3 := Lib.hid (have ⟨s', h1, h2⟩ := HZ.out.2.1; (⟨s', h1.on kr, h2⟩ : ∃ s', TW W (u3.alloc _) q b F s' a B R cells L2 ∧ Outside s s' B cells))
  have HS3 := Lib.hid (HZ.out.1.on kr)
  have hgp : gp < u3.heap.size := Nat.lt_of_lt_of_le (lt_of_block HG2.out) HZ.out.2.2.size
  have HBL : Hid (∀ x ∈ F ++ G, x < u2.heap.size) := fun x hx => (List.mem_append.1 hx).elim (HP2.out.tw.cel.blw x) (HP2.out.mp.blw x)
  have HU : Hid (u2.heap.size ≤ u3.heap.size) := HZ.out.2.2.size
  have HSY := Lib.hid (HSAY.out _ p2 n2 c2 HM3.out HLN.out (row_fl (HRW.out.1.turn HT3.out HRW.out.2)))
  obtain ⟨v3, hv3⟩ : ∃ v3, v3 = u3.alloc (.cells #[.int .i64 hh, .int .i64 cd, .int .i64 0, .slice qo nu k1, .slice qr nr k2, .slice qw nw k3, .int .i64 us] 63) := ⟨_, rfl⟩
  obtain ⟨gr, hgr⟩ : ∃ gr, u3.heap.size = gr := ⟨_, rfl⟩
  rw [hgr] at HRB ⊢
  rw [← hv3] at HRB HB3 HT3 HM3 HW3 HS3 HSY ⊢
  clear hv3 kr HSAY HRW HL2 HZ hgr hgp HB2 HG2 y0 y1 y2 y3 y4 y5 y6 y7 z0 z1 z2
  obtain ⟨⟨y0, y1, y2, y3⟩, y4, y5, y6, y7⟩ := HB3.out.sc
  go_upto_region 7 with (go_at_call 26; refine HSY.out.mono ?_; rintro e u4 hq; obtain ⟨p4, m4, G', hr, hq1, hq2, hq3⟩ := hq.ex; rw [HNU.out] at hr; subst hr; have HQ := Lib.hid (And.intro hq1 (And.intro hq2 hq3)); clear hq hq1 hq2 hq3 HSY)
  have ke := below_alloc u4 (endO hh cd 0)
  have HE4 := Lib.hid (heap_alloc_new u4 (endO hh cd 0))
  have hx4 := HQ.out.2.2.trans (Below.turn ke G')
  have HT4 := Lib.hid hx4
  have HB4 := Lib.hid (HB3.out.turn hx4 (fun x arr T hx hT => mp_no HM3.out hx (by rcases hT with rfl | rfl | rfl <;> decide) (by rcases hT with rfl | rfl | rfl <;> decide)))
  have HR4 := Lib.hid ((hx4.block _ (lt_of_block HRB.out) (mp_no HM3.out HRB.out (by decide) (by decide))).trans HRB.out)
  have HS4 := Lib.hid (HS3.out.turn hx4 (fun x hx => HBL.out x (List.mem_append_right _ hx)))
  have HW4 := Lib.hid (have ⟨s', h1, h2⟩ := HW3.out; (⟨s', h1.past HM3.out hx4 HP2.out.sep HP2.out.abG, h2⟩ : ∃ s', TW W (u4.alloc (endO hh cd 0)) q b F s' a B R cells L2 ∧ Outside s s' B cells))
  have HM4 := Lib.hid (HQ.out.2.1.on ke)
  have HF4 := Lib.hid (HQ.out.1.on ke)
  obtain ⟨v4, hv4⟩ : ∃ v4, v4 = u4.alloc (endO hh cd 0) := ⟨_, rfl⟩
  obtain ⟨ge, hge⟩ : ∃ ge, u4.heap.size = ge := ⟨_, rfl⟩
  rw [hge] at HE4 ⊢
  rw [← hv4] at HE4 HT4 HB4 HR4 HS4 HW4 HM4 HF4 ⊢
  have HFIN : Hid (∀ v, Below v4.heap.size v4 v → Plq W v q b F s a B R cells g G L2 w) := fun v kv => by
    obtain ⟨s', h1, h2⟩ := HW4.out
    refine ⟨s', G', ⟨h1.on kv, HM4.out.on kv, HP2.out.sep.turn (fun x hx => Nat.lt_of_lt_of_le (HBL.out x (List.mem_append_left _ hx)) HT3.out.size) HT4.out, fun x hx => ?_⟩, h2, ?_⟩
    · rcases HT4.out.own x hx with z | z
      · exact HP2.out.abG x z
      · exact Nat.le_trans HP2.out.bl.size (Nat.le_trans HT3.out.size z)
    · have t1 := Below.turn KB2.out (F ++ G)
      have t2 := As.Turn.widen HT3.out (A := F ++ G) (A' := F ++ G) (fun k hk => List.mem_append_left _ hk) (fun k hk => .inl hk)
      have t3 := As.Turn.widen HT4.out (A := F ++ G) (A' := F ++ G') (fun k hk => List.mem_append_right _ hk) (fun k hk => (List.mem_append.1 hk).elim (fun z => .inl (List.mem_append_left _ z)) (fun z => (HT4.out.own k z).imp (fun y => List.mem_append_right _ y) id))
      exact ((t1.trans t2).trans t3).trans (Below.turn kv _)
  have HWI1 := Lib.hid (have ⟨l, r1, r2, r3⟩ := HS4.out.rd; within_any (B := B) (C := cells) r2 r1 (by omega) r3)
  have HWI2 := Lib.hid (have ⟨l, r1, r2, r3⟩ := HS4.out.wr; within_any (B := B) (C := cells) r2 r1 (by omega) r3)
  have HSM := Lib.hid (same_any c.k (ca := k1) (cb := m4) HNU.out hou (row_fl HS4.out.out) HF4.out)
  clear hv4 hge ke hx4 y0 y1 y2 y3 y4 y5 y6 y7 HB3 HT3 HM3 HW3 HS3 HRB HQ HM4 HF4 HW4 HS4 HT4 HBL HU HH KB2 HP2 HLN
  obtain ⟨⟨y0, y1, y2, y3⟩, y4, y5, y6, y7⟩ := HB4.out.sc
  have r0 := (cell_of_row v4 gr 0 _ _ _ HR4.out).trans rfl
  have r1 := (cell_of_row v4 gr 1 _ _ _ HR4.out).trans rfl
  have r2 := (cell_of_row v4 gr 2 _ _ _ HR4.out).trans rfl
  have r3 := (cell_of_row v4 gr 3 _ _ _ HR4.out).trans rfl
  have r4 := (cell_of_row v4 gr 4 _ _ _ HR4.out).trans rfl
  have r5 := (cell_of_row v4 gr 5 _ _ _ HR4.out).trans rfl
  have r6 := (cell_of_row v4 gr 6 _ _ _ HR4.out).trans rfl
  have r7 := lt_of_block HR4.out
  have e0 := (cell_of_row v4 ge 0 _ _ _ HE4.out).trans rfl
  have e1 := (cell_of_row v4 ge 1 _ _ _ HE4.out).trans rfl
  have e2 := (cell_of_row v4 ge 2 _ _ _ HE4.out).trans rfl
  have e3 := lt_of_block HE4.out
  clear HR4 HE4 HB4 y0 y1 y2 y3
  go_upto_region 8 with (first
    | (go_at_call 44; refine HWI1.out.mono ?_; rintro e u ⟨rfl, hu⟩; subst u; clear HWI1)
    | (go_at_call 44; refine HWI2.out.mono ?_; rintro e u ⟨rfl, hu⟩; subst u; clear HWI2))
  go_wp2_with fail
  go_at_call 27
  refine HSM.out.mono ?_
  rintro e u ⟨rfl, hu⟩
  have HSU := Lib.hid hu
  have s5 := (cell_sm hu ⟨gr, 5, none⟩).trans r5
  have s6 := (cell_sm hu ⟨gr, 6, none⟩).trans r6
  have s7 : gr < u.heap.size := by rw [hu.heap]; exact r7
  clear hu HSM r0 r1 r2 r3 r4 r5 r6 e0 e1 e2 e3 y4 y5 y6 y7
  go_wp2_with fail
  go_ret
  exact ⟨rfl, HFIN.out _ (HSU.out.below _)⟩
end
end Go.Proofs.YtpboiggakehpoaaGreatDoor.Tr
namespace Go.Proofs.YtpboiggakehpoaaGreatDoor.Tr
open Go.ChangeShapes Go.WideShapes Go.ChangeAt Go.RowKit Num Go.Maps As
open Go.ChangeMaps Go.MapKept
attribute [local go_sem] run_store_float frombits_run bits_run
section
variable {w : World}
set_option maxRecDepth 100000 in
set_option maxHeartbeats 4000000 in
theorem others_any {d : Wd} (hd : WdIn w d) {m : Int} (hm : m = 1 ∨ m = 2) (hB : 0 ≤ d.B) (hC : 1 ≤ d.C) (hf : d.B + m * d.C ≤ 256) {b : Nat} {F s : List Nat} (hc : Sx.Cel 94 w b F s) (hs : s.length = (totV d m).toNat) (ho : ∀ i : Nat, i < s.length → ((i : Int) < d.B ∨ d.B + m * d.C ≤ (i : Int)) → s.getD i 0 = ((lB d m).map fixB).getD i 0) : Calls Tryz.prog 21 #[wdV d, .int .i64 m, .pointer (some ⟨b, 0, none⟩)] w fun e w' => e = .returned (.bool true) ∧ Below w.heap.size w w' := by
  have HBE := Lib.hid (begins_any (hd.on (below_alloc w (wdO d))) hm hB hC hf)
  have HX : Hid (∀ u, Below (w.alloc (wdO d)).heap.size (w.alloc (wdO d)) u → Below w.heap.size w u ∧ u.heap[w.heap.size]? = some (wdO d)) := fun u k => ⟨(below_alloc w _).trans (k.mono (by simp)), (k.block _ (by simp)).trans (heap_alloc_new w _)⟩
  have HC := Lib.hid hc
  have hl : ((lB d m).map fixB).length = (totV d m).toNat := by rw [List.length_map, lB_len]
  have hn256 : (totV d m).toNat ≤ 256 := by unfold totV; split <;> omega
  obtain ⟨B, C, M, pn, ln, cn, pc, L, cc⟩ := d
  simp only at *
  generalize (lB _ m).map fixB = l at *
  generalize (totV _ m).toNat = n at *
  have H3 : wrap64 (m * C) = m * C := by
    have : 0 ≤ m * C ∧ m * C ≤ 256 := by rcases hm with rfl | rfl <;> omega
    unfold wrap64
    omega
  have H4 : wrap64 (B + m * C) = B + m * C := by
    have : 0 ≤ m * C ∧ m * C ≤ 256 := by rcases hm with rfl | rfl <;> omega
    unfold wrap64
    omega
  have hmc : 0 ≤ m * C ∧ m * C ≤ 256 := by rcases hm with rfl | rfl <;> omega
  have H5 : IntKind.i64.wrap (m * C) = m * C := Go.IntWalk.i64_in _ ⟨by omega, by omega⟩
  have H6 : IntKind.i64.wrap (B + m * C) = B + m * C := Go.IntWalk.i64_in _ ⟨by omega, by omega⟩
  have HO : Hid (∀ i : Nat, i < n → ((i : Int) < B ∨ B + m * C ≤ (i : Int)) → s.getD i 0 = l.getD i 0) := fun i hi => ho i (by omega)
  clear hd hc ho hB hC hf hmc
  go_enter Tryz.func21, Tryz.ntmps21
  go_upto_region 6 with (first
    | (go_at_call 17; refine HBE.out.mono ?_; rintro e u1 ⟨b1, F1, rfl, HZ⟩; clear HBE)
    | (go_at_call 22; refine (Sx.all_any (HC.out.on ((HX.out _ (HZ.out.2.2)).1.trans (K2.out.mono (HX.out _ (HZ.out.2.2)).1.size)))).mono ?_; rintro e u3 ⟨rfl, q5, q6⟩; have A2 := Lib.hid (And.intro q5 q6); clear q5 q6)
    | (go_at_call 22; refine (Sx.all_any HZ.out.1).mono ?_; rintro e u2 ⟨rfl, q1, q2⟩; have K2 := Lib.hid q2; have A1 := Lib.hid q1; clear q1 q2))
  have hb3 := (HX.out _ (HZ.out.2.2)).1
  have kk := (hb3.trans (K2.out.mono hb3.size)).trans (A2.out.2.mono (Nat.le_trans hb3.size K2.out.size))
  have hbx := (A2.out.2.block _ (Nat.lt_of_lt_of_le (lt_of_block (HX.out _ HZ.out.2.2).2) K2.out.size)).trans ((K2.out.block _ (lt_of_block (HX.out _ HZ.out.2.2).2)).trans (HX.out _ HZ.out.2.2).2)
  have HR1 : Hid (∀ i, i < n → u1.heap.size < u3.heap.size ∧ u3.cell? ⟨u1.heap.size, i, none⟩ = some (.float .f64 (l.getD i 0))) := fun i hi => by
    obtain ⟨g, e, r1, r2⟩ := row_at (A1.out.on A2.out.2) rfl i (by omega)
    injection e with e
    injection e with e
    subst e
    exact ⟨r1, r2⟩
  have HR2 : Hid (∀ i, i < n → u2.heap.size < u3.heap.size ∧ u3.cell? ⟨u2.heap.size, i, none⟩ = some (.float .f64 (s.getD i 0))) := fun i hi => by
    obtain ⟨g, e, r1, r2⟩ := row_at A2.out.1 rfl i (by omega)
    injection e with e
    injection e with e
    subst e
    exact ⟨r1, r2⟩
  have HKK := Lib.hid kk
  have HBX := Lib.hid (cells5w hbx)
  obtain ⟨g1, hg1⟩ : ∃ g1, u1.heap.size = g1 := ⟨_, rfl⟩
  obtain ⟨g2, hg2⟩ : ∃ g2, u2.heap.size = g2 := ⟨_, rfl⟩
  obtain ⟨n0, hn0⟩ : ∃ n0, w.heap.size = n0 := ⟨_, rfl⟩
  rw [hg1] at HR1 ⊢
  rw [hg2] at HR2 ⊢
  rw [hn0] at HBX ⊢
  have HN0 := Lib.hid hn0
  have hni : (n : Int) ≤ 256 := by omega
  clear hg1 hg2 hn0 kk hbx hb3 A1 A2 K2 HZ HX HC
  go_wp2_with fail
  go_loopw [10, 6] (fun v10 v6 wr => ∃ i : Nat, v10 = .int .i64 (i : Int) ∧ v6 = .bool false ∧ i ≤ n ∧ Hid (Same u3 wr)) (fun v10 _ _ => n - (intOf v10).toNat)
  case atStart => exact ⟨0, rfl, rfl, Nat.zero_le _, Same.refl u3⟩
  case round =>
    obtain ⟨i, rfl, rfl, hi, HR⟩ := hrel
    by_cases hlt : i < n
    · have hlt' : (i : Int) < (n : Int) := by omega
      obtain ⟨l1, c1⟩ := HR1.out i hlt
      obtain ⟨l2, c2⟩ := HR2.out i hlt
      obtain ⟨y0, y1, _, _, _, y5⟩ := HBX.out
      have HOI := Lib.hid (HO.out i hlt)
      obtain ⟨x, hx⟩ : ∃ x, l.getD i 0 = x := ⟨_, rfl⟩
      obtain ⟨y, hy⟩ : ∃ y, s.getD i 0 = y := ⟨_, rfl⟩
      rw [hx] at c1 HOI
      rw [hy] at c2 HOI
      replace c1 := (cell_sm HR.out _).trans c1
      replace c2 := (cell_sm HR.out _).trans c2
      replace y0 := (cell_sm HR.out ⟨n0, 0, none⟩).trans y0
      replace y1 := (cell_sm HR.out ⟨n0, 1, none⟩).trans y1
      rw [← HR.out.heap] at l1 l2 y5
      have hcs : ((i : Int) < B ∧ y = x) ∨ (¬ (i : Int) < B ∧ B + m * C ≤ (i : Int) ∧ y = x) ∨ (¬ (i : Int) < B ∧ ¬ B + m * C ≤ (i : Int)) := by
        by_cases h1 : (i : Int) < B
        · exact .inl ⟨h1, HOI.out (.inl h1)⟩
        · by_cases h2 : B + m * C ≤ (i : Int)
          · exact .inr (.inl ⟨h1, h2, HOI.out (.inr h2)⟩)
          · exact .inr (.inr ⟨h1, h2⟩)
      clear HR1 HR2 HBX HO HOI hx hy
      rcases hcs with ⟨h1, rfl⟩ | ⟨h1, h2, rfl⟩ | ⟨h1, h2⟩
      · go_upto_region 9 with fail
        refine wp_region_seq (fun u => (u.cell? ⟨g1, i, none⟩ = some (.float .f64 y) ∧ u.cell? ⟨g2, i, none⟩ = some (.float .f64 y)) ∧ u.cell? ⟨n0, 0, none⟩ = some (.int .i64 B) ∧ u.cell? ⟨n0, 1, none⟩ = some (.int .i64 C)) ((0, true) :: (1, true) :: (2, true) :: (3, true) :: (4, true) :: (5, true) :: (6, true) :: (7, true) :: (8, true) :: (9, true) :: (10, true) :: (11, true) :: (12, true) :: (13, true) :: (14, true) :: (15, true) :: (16, true) :: (17, true) :: (18, true) :: (19, true) :: (21, true) :: (22, true) :: (23, true) :: (24, true) :: (20, false) :: (25, false) :: (26, true) :: (27, true) :: []) follows (by kernel_rfl) (fun _ _ _ _ _ h => h) ⟨⟨c1, c2⟩, y0, y1⟩ ?_
        (repeat ((first | (refine wpSeq_take (v := ?_) rfl (by rfl) (fun wq hSq => ?_) ?_; rotate_left; (focus ((try dsimp only at hSq); go_simp; try with_reducible rfl))) | refine wpSeq_skip rfl (by rfl) ?_); simp only [Act.put, List.setIfInBounds_toArray, List.set_cons_zero, List.set_cons_succ]))
        (refine wpSeq_do rfl (by rfl) (fun KK hK => ?_); go_simp)
        refine hK.out _ _ ⟨⟨c1, c2⟩, y0, y1⟩ ?_
        (clear hK KK; try simp only [Act.put, List.setIfInBounds_toArray, List.set_cons_zero, List.set_cons_succ])
        (repeat ((first | (refine wpSeq_take (v := ?_) rfl (by rfl) (fun wq hSq => ?_) ?_; rotate_left; (focus ((try dsimp only at hSq); go_simp; try with_reducible rfl))) | refine wpSeq_skip rfl (by rfl) ?_); simp only [Act.put, List.setIfInBounds_toArray, List.set_cons_zero, List.set_cons_succ]))
        (refine wpSeq_do rfl (by rfl) (fun KK hK => ?_); go_simp)
        refine hK.out _ _ ⟨⟨c1, c2⟩, y0, y1⟩ ?_
        (clear hK KK; try simp only [Act.put, List.setIfInBounds_toArray, List.set_cons_zero, List.set_cons_succ])
        (repeat ((first | (refine wpSeq_take (v := ?_) rfl (by rfl) (fun wq hSq => ?_) ?_; rotate_left; (focus ((try dsimp only at hSq); go_simp; try with_reducible rfl))) | refine wpSeq_skip rfl (by rfl) ?_); simp only [Act.put, List.setIfInBounds_toArray, List.set_cons_zero, List.set_cons_succ]))
        refine wpSeq_nil ?_
        go_wp2_with fail
        exact ⟨⟨i + 1, by first | rfl | (congr 1), rfl, by omega, HR.out.trans (Same.drew _)⟩, by simp [intOf]; omega⟩
      · go_upto_region 9 with fail
        refine wp_region_seq (fun u => (u.cell? ⟨g1, i, none⟩ = some (.float .f64 y) ∧ u.cell? ⟨g2, i, none⟩ = some (.float .f64 y)) ∧ u.cell? ⟨n0, 0, none⟩ = some (.int .i64 B) ∧ u.cell? ⟨n0, 1, none⟩ = some (.int .i64 C)) ((0, true) :: (1, true) :: (2, true) :: (3, true) :: (4, true) :: (5, true) :: (6, true) :: (7, true) :: (8, true) :: (9, true) :: (10, true) :: (11, true) :: (12, true) :: (13, true) :: (14, true) :: (15, true) :: (16, true) :: (17, true) :: (18, true) :: (19, true) :: (21, true) :: (22, true) :: (23, true) :: (24, true) :: (20, false) :: (25, false) :: (26, true) :: (27, true) :: []) follows (by kernel_rfl) (fun _ _ _ _ _ h => h) ⟨⟨c1, c2⟩, y0, y1⟩ ?_
        (repeat ((first | (refine wpSeq_take (v := ?_) rfl (by rfl) (fun wq hSq => ?_) ?_; rotate_left; (focus ((try dsimp only at hSq); go_simp; try with_reducible rfl))) | refine wpSeq_skip rfl (by rfl) ?_); simp only [Act.put, List.setIfInBounds_toArray, List.set_cons_zero, List.set_cons_succ]))
        (refine wpSeq_do rfl (by rfl) (fun KK hK => ?_); go_simp)
        refine hK.out _ _ ⟨⟨c1, c2⟩, y0, y1⟩ ?_
        (clear hK KK; try simp only [Act.put, List.setIfInBounds_toArray, List.set_cons_zero, List.set_cons_succ])
        (repeat ((first | (refine wpSeq_take (v := ?_) rfl (by rfl) (fun wq hSq => ?_) ?_; rotate_left; (focus ((try dsimp only at hSq); go_simp; try with_reducible rfl))) | refine wpSeq_skip rfl (by rfl) ?_); simp only [Act.put, List.setIfInBounds_toArray, List.set_cons_zero, List.set_cons_succ]))
        (refine wpSeq_do rfl (by rfl) (fun KK hK => ?_); go_simp)
        refine hK.out _ _ ⟨⟨c1, c2⟩, y0, y1⟩ ?_
        (clear hK KK; try simp only [Act.put, List.setIfInBounds_toArray, List.set_cons_zero, List.set_cons_succ])
        (repeat ((first | (refine wpSeq_take (v := ?_) rfl (by rfl) (fun wq hSq => ?_) ?_; rotate_left; (focus ((try dsimp only at hSq); go_simp; try with_reducible rfl))) | refine wpSeq_skip rfl (by rfl) ?_); simp only [Act.put, List.setIfInBounds_toArray, List.set_cons_zero, List.set_cons_succ]))
        refine wpSeq_nil ?_
        go_wp2_with fail
        exact ⟨⟨i + 1, by first | rfl | (congr 1), rfl, by omega, HR.out.trans (Same.drew _)⟩, by simp [intOf]; omega⟩
      · go_upto_region 9 with fail
        refine wp_region_seq (fun u => (u.cell? ⟨g1, i, none⟩ = some (.float .f64 x) ∧ u.cell? ⟨g2, i, none⟩ = some (.float .f64 y)) ∧ u.cell? ⟨n0, 0, none⟩ = some (.int .i64 B) ∧ u.cell? ⟨n0, 1, none⟩ = some (.int .i64 C)) ((0, true) :: (1, true) :: (2, true) :: (3, true) :: (4, true) :: (5, true) :: (6, true) :: (7, true) :: (8, true) :: (9, true) :: (10, true) :: (11, true) :: (12, true) :: (13, true) :: (14, true) :: (15, true) :: (16, true) :: (17, true) :: (18, true) :: (19, true) :: (21, true) :: (22, true) :: (23, true) :: (24, true) :: (20, false) :: (25, false) :: (26, true) :: (27, true) :: []) follows (by kernel_rfl) (fun _ _ _ _ _ h => h) ⟨⟨c1, c2⟩, y0, y1⟩ ?_
        (repeat ((first | (refine wpSeq_take (v := ?_) rfl (by rfl) (fun wq hSq => ?_) ?_; rotate_left; (focus ((try dsimp only at hSq); go_simp; try with_reducible rfl))) | refine wpSeq_skip rfl (by rfl) ?_); simp only [Act.put, List.setIfInBounds_toArray, List.set_cons_zero, List.set_cons_succ]))
        refine wpSeq_skip' rfl (by rfl) ⟨⟨c1, c2⟩, y0, y1⟩ ?_
        simp only [Act.put, List.setIfInBounds_toArray, List.set_cons_zero, List.set_cons_succ]
        refine wpSeq_skip' rfl (by rfl) ⟨⟨c1, c2⟩, y0, y1⟩ ?_
        simp only [Act.put, List.setIfInBounds_toArray, List.set_cons_zero, List.set_cons_succ]
        (repeat ((first | (refine wpSeq_take (v := ?_) rfl (by rfl) (fun wq hSq => ?_) ?_; rotate_left; (focus ((try dsimp only at hSq); go_simp; try with_reducible rfl))) | refine wpSeq_skip rfl (by rfl) ?_); simp only [Act.put, List.setIfInBounds_toArray, List.set_cons_zero, List.set_cons_succ]))
        refine wpSeq_nil ?_
        go_wp2_with fail
        exact ⟨⟨i + 1, by first | rfl | (congr 1), rfl, by omega, HR.out.trans (Same.drew _)⟩, by simp [intOf]; omega⟩
    · obtain rfl : i = n := by omega
      have hlt' : ¬ (i : Int) < (i : Int) := by omega
      clear HR1 HR2 HBX HO
      go_wp2_with fail
      go_ret
      exact ⟨rfl, by rw [← HN0.out] at *; exact HKK.out.trans (HR.out.below _)⟩
end
end Go.Proofs.YtpboiggakehpoaaGreatDoor.Tr
namespace Go.Proofs.YtpboiggakehpoaaGreatDoor.Tr
open Go.ChangeShapes Go.WideShapes Go.ChangeAt Go.RowKit Num Go.Maps As
open Go.ChangeMaps Go.MapKept
attribute [local go_sem] run_store_float frombits_run bits_run
section
variable {W w w' : World} {q : Nat → Ptr} {b g : Nat} {F G s : List Nat} {a : Int} {B R cells : Nat} {L : Prs}
set_option maxRecDepth 100000 in
theorem call_no (h : Pl W w q b F s a B R cells g G L) {c : Cal} (hk : ¬ (1 ≤ c.k ∧ c.k ≤ 7)) : Calls Tryz.prog 20 #[cfgV a 1 1024 8, treeA q, .pointer (some ⟨g, 0, none⟩), .pointer (some ⟨b, 0, none⟩), .int .i64 (B : Nat), .int .i64 (cells : Nat), .agg #[.int .i64 c.k, .bool c.o, .slice c.p c.l.length c.c]] w fun e w' => e = .returned (.bool true) ∧ Hid (Plq W w' q b F s a B R cells g G L w) := by
  have HP : Hid (∀ u, _) := fun u => prog_none q hk u
  have HH := Lib.hid h
  clear h hk
  go_enter Tryz.func20, Tryz.ntmps20
  go_wp2_with (first
    | (go_at_call 14; refine (HP.out _).mono ?_; rintro e u1 ⟨rfl, k1⟩; have K1 := Lib.hid k1; clear k1 HP))
  go_ret
  have k := (below_chain (three_al w _ _ _) K1.out).trans ((below_alloc u1 (.cells #[.int .i64 0, .slice none 0 0] 26)).mono (Nat.le_trans (three_al w _ _ _).size K1.out.size))
  exact ⟨rfl, s, G, HH.out.on k, Outside.refl .., Below.turn k _⟩
theorem call_k (h : Pl W w q b F s a B R cells g G L) {c : Cal} (hc : okC c) (hb : BtAt w c.p c.l) : Calls Tryz.prog 20 #[cfgV a 1 1024 8, treeA q, .pointer (some ⟨g, 0, none⟩), .pointer (some ⟨b, 0, none⟩), .int .i64 (B : Nat), .int .i64 (cells : Nat), .agg #[.int .i64 c.k, .bool c.o, .slice c.p c.l.length c.c]] w fun e w' => e = .returned (.bool true) ∧ Hid (Plq W w' q b F s a B R cells g G (callS R L c) w) := by
  unfold callS
  by_cases hk : 1 ≤ c.k ∧ c.k ≤ 7
  · rw [if_pos hk]
    exact call_any h hc hb hk
  · rw [if_neg hk]
    exact call_no h hk
theorem mp_new (w : World) (M : Int) : MpAt (w.alloc (mpO none 0 0 M)) w.heap.size [w.heap.size] M [] := ⟨none, 0, rfl, heap_alloc_new _ _, rowW_nil _ _ _⟩
structure Bp (d : Wd) (q : Nat → Ptr) (n0 g4 g9 : Nat) (a : Int) (w : World) : Prop where
  b1 : w.heap[n0]? = some (wdO d)
  b4 : w.heap[g4]? = some (tO q)
  b9 : w.heap[g9]? = some (cfgO a 1 1024 8)
theorem Bp.on {d : Wd} {n0 g4 g9 : Nat} (h : Bp d q n0 g4 g9 a w) (k : Below w.heap.size w w') : Bp d q n0 g4 g9 a w' :=
  ⟨(k.block _ (lt_of_block h.b1)).trans h.b1, (k.block _ (lt_of_block h.b4)).trans h.b4, (k.block _ (lt_of_block h.b9)).trans h.b9⟩
theorem Bp.turn {d : Wd} {n0 g4 g9 : Nat} {H H' : List Nat} (h : Bp d q n0 g4 g9 a w) (k : Turn H H' w w') (hn : ∀ (x : Nat) (arr : Array Value) (T : TypeId), w.heap[x]? = some (.cells arr T (0, 0)) → T = 48 ∨ T = 28 ∨ T = 40 → x ∉ H) : Bp d q n0 g4 g9 a w' :=
  ⟨(k.block _ (lt_of_block h.b1) (hn _ _ _ h.b1 (.inr (.inr rfl)))).trans h.b1, (k.block _ (lt_of_block h.b4) (hn _ _ _ h.b4 (.inr (.inl rfl)))).trans h.b4, (k.block _ (lt_of_block h.b9) (hn _ _ _ h.b9 (.inl rfl))).trans h.b9⟩
structure B0 (d : Wd) (q : Nat → Ptr) (W : World) (g4 : Nat) (w : World) : Prop where
  bl : Below W.heap.size W w
  b1 : w.heap[W.heap.size]? = some (wdO d)
  b4 : w.heap[g4]? = some (tO q)
  tr : TrAt w d.B (roomV d.C) q
theorem B0.on {d : Wd} {g4 : Nat} (h : B0 d q W g4 w) (k : Below w.heap.size w w') : B0 d q W g4 w' :=
  ⟨h.bl.trans (k.mono h.bl.size), (k.block _ (lt_of_block h.b1)).trans h.b1, (k.block _ (lt_of_block h.b4)).trans h.b4, h.tr.on k⟩
theorem b0_new {W u1 u2 : World} {d : Wd} (k1 : Below (W.alloc (wdO d)).heap.size (W.alloc (wdO d)) u1) (k2 : Below u1.heap.size u1 u2) (t : TrAt u2 d.B (roomV d.C) q) : B0 d q W u2.heap.size (u2.alloc (tO q)) := by
  have e1 := heap_alloc_new W (wdO d)
  have k0 := below_alloc W (wdO d)
  have ka := below_alloc u2 (tO q)
  have b1 := below_chain k0 k1
  have b2 := below_chain b1 k2
  have f1 := (k1.block _ (lt_of_block e1)).trans e1
  have f2 := (k2.block _ (lt_of_block f1)).trans f1
  exact ⟨below_chain b2 ka, (ka.block _ (lt_of_block f2)).trans f2, heap_alloc_new _ _, t.on ka⟩
end
end Go.Proofs.YtpboiggakehpoaaGreatDoor.Tr
namespace Go.Proofs.YtpboiggakehpoaaGreatDoor.Tr
open Go.ChangeShapes Go.WideShapes Go.ChangeAt Go.RowKit Num Go.Maps As
open Go.ChangeMaps Go.MapKept
attribute [local go_sem] run_store_float frombits_run bits_run
end Go.Proofs.YtpboiggakehpoaaGreatDoor.Tr
namespace Go.Proofs.YtpboiggakehpoaaGreatDoor.Tr
open Go.ChangeShapes Go.WideShapes Go.ChangeAt Go.RowKit Num Go.Maps As
open Go.ChangeMaps Go.MapKept
attribute [local go_sem] run_store_float frombits_run bits_run
end Go.Proofs.YtpboiggakehpoaaGreatDoor.Tr
namespace Go.Proofs.YtpboiggakehpoaaGreatDoor.Tr
open Go.ChangeShapes Go.WideShapes Go.ChangeAt Go.RowKit Num Go.Maps As
open Go.ChangeMaps Go.MapKept
attribute [local go_sem] run_store_float frombits_run bits_run
end Go.Proofs.YtpboiggakehpoaaGreatDoor.Tr
namespace Go.Proofs.YtpboiggakehpoaaGreatDoor.Tr
open Go.ChangeShapes Go.WideShapes Go.ChangeAt Go.RowKit Num Go.Maps As
open Go.ChangeMaps Go.MapKept
attribute [local go_sem] run_store_float frombits_run bits_run
theorem Has.other {B R B1 c1 : Nat} {s s' : List Nat} {L : Prs} (h : Has B R s L) (ho : Outside s s' B1 c1) (hR : 1 ≤ R) (hfit : B + 3 * R + 2 < s.length) (hd : B + 3 * R + 2 < B1 ∨ B1 + c1 ≤ B) : Has B R s' L := by
  obtain ⟨M, t, S, hT, hL⟩ := h
  refine ⟨M, t, S, hT.congr (fun c h1 h2 => ?_) hR, hL⟩
  rw [v0_mem (by rw [ho.1]; omega), v0_mem (by omega), ho.2 c (by omega) (by omega)]
section
variable {W w w' : World} {q q2 : Nat → Ptr} {b g g2 : Nat} {F G G2 s : List Nat} {a : Int} {B B2 R cells : Nat} {L L2 L' : Prs}
structure Ap (W w : World) (q q2 : Nat → Ptr) (b : Nat) (F s : List Nat) (a : Int) (B B2 R cells : Nat) (g : Nat) (G : List Nat) (L : Prs) (g2 : Nat) (G2 : List Nat) (L2 : Prs) : Prop where
  p1 : Pl W w q b F s a B R cells g G L
  p2 : Pl W w q2 b F s a B2 R cells g2 G2 L2
  sep : Sep G G2
  far : B + cells ≤ B2 ∨ B2 + cells ≤ B
theorem Ap.symm (h : Ap W w q q2 b F s a B B2 R cells g G L g2 G2 L2) : Ap W w q2 q b F s a B2 B R cells g2 G2 L2 g G L := ⟨h.p2, h.p1, h.sep.symm, h.far.symm⟩
theorem Ap.on (h : Ap W w q q2 b F s a B B2 R cells g G L g2 G2 L2) (k : Below w.heap.size w w') : Ap W w' q q2 b F s a B B2 R cells g G L g2 G2 L2 := ⟨h.p1.on k, h.p2.on k, h.sep, h.far⟩
theorem Ap.one (h : Ap W w q q2 b F s a B B2 R cells g G L g2 G2 L2) (k : Plq W w' q b F s a B R cells g G L' w) : ∃ s' G', Ap W w' q q2 b F s' a B B2 R cells g G' L' g2 G2 L2 ∧ Outside s s' B cells ∧ Turn (F ++ G) (F ++ G') w w' := by
  obtain ⟨s', G', k1, k2, k3⟩ := k
  have h2 := h.p2
  have hr := h2.tw.lies.r
  have hfit := h2.tw.lies.fit
  have hn := h2.tw.lies.n
  have hl := h2.tw.lies
  refine ⟨s', G', ⟨k1, ⟨⟨h2.tw.sh, k1.tw.bl, h2.tw.ab, ⟨fun i hi => ?_⟩, k1.tw.cel, k1.tw.ok, h2.tw.has.other k2 hr.1 (by omega) (by have := h.far; omega), by rw [k2.1]; exact hl⟩, h2.mp.turn k3 (sep_app h2.sep.symm h.sep.symm), h2.sep, h2.abG⟩, ?_, h.far⟩, k2, k3⟩
  · have hq := h2.tw.tr.row i hi
    refine ⟨hq.1, hq.2.keep (k3.kept (fun x hx => ?_) hq.2.blw)⟩
    obtain ⟨arr, e⟩ := hq.2.blk hx
    exact h.p1.no e (by decide) (by decide) (by decide) (by decide)
  · refine fun x hx hy => ?_
    rcases k3.own x (List.mem_append_right _ hx) with z | z
    · rcases List.mem_append.1 z with z | z
      · exact h2.sep x z hy
      · exact h.sep x z hy
    · exact absurd (h2.mp.blw x hy) (Nat.not_lt.2 z)
theorem Ap.no (h : Ap W w q q2 b F s a B B2 R cells g G L g2 G2 L2) {x : Nat} {arr : Array Value} {T : TypeId} {y : Nat × Nat} (hx : w.heap[x]? = some (.cells arr T y)) (h1 : (T == 94) = false) (h2 : (T == 74) = false) (h3 : (T == 46) = false) (h4 : (T == 147) = false) : x ∉ F ++ G := h.p1.no hx h1 h2 h3 h4
theorem tw_new2 {d : Wd} (hd : WdIn W d) (h7 : 7 ≤ d.C) (h0 : 0 ≤ d.B) (hf : d.B + 2 * d.C ≤ 256) {B : Int} (hB : B = d.B ∨ B = d.B + d.C) {q : Nat → Ptr} (hT : Shaped5 W) (hb : Below W.heap.size W w) (ha : Abv W.heap.size F) (ht : TrAt w B (roomV d.C) q) (hc : Sx.Cel 94 w b F ((lB d 2).map fixB)) : TW W w q b F ((lB d 2).map fixB) (totV d 2) B.toNat (roomV d.C).toNat d.C.toNat [] := by
  have htv : 1 ≤ totV d 2 ∧ totV d 2 ≤ 256 ∧ d.B + 2 * d.C ≤ totV d 2 := by
    unfold totV
    have := moreV_in d.M
    split <;> omega
  have hr := roomV_eq h7
  have hlen : ((lB d 2).map fixB).length = (totV d 2).toNat := by rw [List.length_map, lB_len]
  have hl : Lies (totV d 2) 1 8 B.toNat (roomV d.C).toNat d.C.toNat ((lB d 2).map fixB).length := by
    refine ⟨Md.cfgB_iff.2 ?_, by rw [hlen]; omega, by decide, by omega, by omega, by omega⟩
    omega
  refine ⟨hT, hb, ha, ?_, hc, lB_ok hd 2, has_new hl fun i h1 h2 => ?_, hl⟩
  · rw [show ((B.toNat : Nat) : Int) = B by omega, show (((roomV d.C).toNat : Nat) : Int) = roomV d.C by omega]
    exact ht
  · have hi : i < (totV d 2).toNat := by omega
    have e := lB_at d 2 i hi
    have e2 : sB d 2 i = 0 := if_neg (by omega)
    rw [e2] at e
    rw [List.getD_eq_getElem?_getD, List.getElem?_map, List.getElem?_eq_getElem (by rw [lB_len]; exact hi)]
    rw [List.getD_eq_getElem?_getD, List.getElem?_eq_getElem (by rw [lB_len]; exact hi)] at e
    simp only [Option.getD_some, Option.map_some] at e ⊢
    rw [e]
    rfl
end
end Go.Proofs.YtpboiggakehpoaaGreatDoor.Tr
namespace Go.Proofs.YtpboiggakehpoaaGreatDoor.Tr
open Go.ChangeShapes Go.WideShapes Go.ChangeAt Go.RowKit Num Go.Maps As
open Go.ChangeMaps Go.MapKept
attribute [local go_sem] run_store_float frombits_run bits_run
theorem Outside.wide {s s' : List Nat} {B1 c1 B c : Nat} (h : Outside s s' B1 c1) (h1 : B ≤ B1) (h2 : B1 + c1 ≤ B + c) : Outside s s' B c := ⟨h.1, fun i hi ho => h.2 i hi (by omega)⟩
structure B2 (d : Wd) (q q2 : Nat → Ptr) (W : World) (g4 g5 : Nat) (w : World) : Prop where
  bl : Below W.heap.size W w
  b1 : w.heap[W.heap.size]? = some (wdO d)
  b4 : w.heap[g4]? = some (tO q)
  b5 : w.heap[g5]? = some (tO q2)
  tr : TrAt w d.B (roomV d.C) q
  tr2 : TrAt w (d.B + d.C) (roomV d.C) q2
section
variable {W w w' : World} {q q2 : Nat → Ptr} {d : Wd} {g4 g5 : Nat}
theorem B2.on (h : B2 d q q2 W g4 g5 w) (k : Below w.heap.size w w') : B2 d q q2 W g4 g5 w' :=
  ⟨h.bl.trans (k.mono h.bl.size), (k.block _ (lt_of_block h.b1)).trans h.b1, (k.block _ (lt_of_block h.b4)).trans h.b4, (k.block _ (lt_of_block h.b5)).trans h.b5, h.tr.on k, h.tr2.on k⟩
theorem b2_new {u1 : World} (h : B0 d q W g4 w) (k : Below w.heap.size w u1) (t : TrAt u1 (d.B + d.C) (roomV d.C) q2) : B2 d q q2 W g4 u1.heap.size (u1.alloc (tO q2)) := by
  have h1 := (h.on k).on (below_alloc u1 (tO q2))
  exact ⟨h1.bl, h1.b1, h1.b4, heap_alloc_new _ _, h1.tr, t.on (below_alloc _ _)⟩
structure Bq (d : Wd) (q q2 : Nat → Ptr) (n0 g4 g5 g9 : Nat) (a : Int) (w : World) : Prop where
  p : Bp d q n0 g4 g9 a w
  b5 : w.heap[g5]? = some (tO q2)
theorem Bq.on {n0 g9 : Nat} {a : Int} (h : Bq d q q2 n0 g4 g5 g9 a w) (k : Below w.heap.size w w') : Bq d q q2 n0 g4 g5 g9 a w' := ⟨h.p.on k, (k.block _ (lt_of_block h.b5)).trans h.b5⟩
theorem Bq.turn {n0 g9 : Nat} {a : Int} {H H' : List Nat} (h : Bq d q q2 n0 g4 g5 g9 a w) (k : Turn H H' w w') (hn : ∀ (x : Nat) (arr : Array Value) (T : TypeId), w.heap[x]? = some (.cells arr T (0, 0)) → T = 48 ∨ T = 28 ∨ T = 40 → x ∉ H) : Bq d q q2 n0 g4 g5 g9 a w' :=
  ⟨h.p.turn k hn, (k.block _ (lt_of_block h.b5) (hn _ _ _ h.b5 (.inr (.inl rfl)))).trans h.b5⟩
set_option maxRecDepth 100000 in
set_option maxHeartbeats 1000000 in
theorem apart_yes (hT : Shaped5 W) {d : Wd} (hd : WdIn W d) (h7 : 7 ≤ d.C) (h0 : 0 ≤ d.B) (hf : d.B + 2 * d.C ≤ 256) : Calls Tryz.prog 6 #[wdV d] W fun e w' => e = .returned (.bool true) ∧ Below W.heap.size W w' := by
  have HLV : Hid (∀ u, Below W.heap.size W u → _) := fun u hu => live_any (hT.on hu)
  have HMK : Hid (∀ u, Below W.heap.size W u → _) := fun u hu => make_A (hT.on hu) (b := d.B) (c := d.C) (by omega) h7 h0 (by omega)
  have HMN : Hid (∀ u, Below W.heap.size W u → _) := fun u hu => make_A (hT.on hu) (b := d.B + d.C) (c := d.C) (by omega) h7 (by omega) (by omega)
  have HFI : Hid (∀ u, _) := fun u => fits_yes (b := d.B) (c := d.C) h7 h0 (by omega) u
  have HFN : Hid (∀ u, _) := fun u => fits_yes (b := d.B + d.C) (c := d.C) h7 (by omega) (by omega) u
  have HBE : Hid (∀ u, Below W.heap.size W u → _) := fun u hu => begins_any (m := 2) (hd.on hu) (.inr rfl) h0 (by omega) (by omega)
  have HRO : Hid (∀ u, _) := fun u => rroom_any d.C (by omega) u
  have HNEW : Hid (∀ (w : World) (q q2 : Nat → Ptr) (b : Nat) (F : List Nat), Below W.heap.size W w → Abv W.heap.size F → TrAt w d.B (roomV d.C) q → TrAt w (d.B + d.C) (roomV d.C) q2 → Sx.Cel 94 w b F ((lB d 2).map fixB) → TW W w q b F ((lB d 2).map fixB) (totV d 2) d.B.toNat (roomV d.C).toNat d.C.toNat [] ∧ TW W w q2 b F ((lB d 2).map fixB) (totV d 2) (d.B + d.C).toNat (roomV d.C).toNat d.C.toNat []) := fun w q q2 b F h1 h2 h3 h4 h5 => ⟨tw_new2 hd h7 h0 hf (.inl rfl) hT h1 h2 h3 h5, tw_new2 hd h7 h0 hf (.inr rfl) hT h1 h2 h4 h5⟩
  obtain ⟨a, ha⟩ : ∃ a, totV d 2 = a := ⟨_, rfl⟩
  have HTO : Hid (∀ u, Calls Tryz.prog 19 #[wdV d, .int .i64 2] u fun e w' => e = .returned (.int .i64 a) ∧ Below u.heap.size u w') := fun u => by rw [← ha]; exact total_any d (m := 2) (.inr rfl) h0 (by omega) (by omega) u
  have HOT : Hid (∀ (u : World) (b : Nat) (F s : List Nat), Below W.heap.size W u → Sx.Cel 94 u b F s → s.length = (totV d 2).toNat → Outside ((lB d 2).map fixB) s d.B.toNat (2 * d.C.toNat) → _) := fun u b F s hu hc hs ho => others_any (m := 2) (hd.on hu) (.inr rfl) h0 (by omega) (by omega) hc hs (fun i hi hio => ho.2 i (by rw [List.length_map, lB_len]; omega) (by omega))
  rw [ha] at HNEW HOT
  have HCS := Lib.hid hd.cs
  have HCX := Lib.hid hd.cx
  have HCL := Lib.hid hd.cl
  obtain ⟨R, hR⟩ : ∃ R : Nat, roomV d.C = (R : Int) := ⟨(roomV d.C).toNat, by have := roomV_eq h7; omega⟩
  have HRR := Lib.hid hR
  rw [hR] at HRO
  have HAA : Hid (totV d 2 = a) := ha
  have HX1 : Hid (∀ u, Below (W.alloc (wdO d)).heap.size (W.alloc (wdO d)) u → u.heap[W.heap.size]? = some (wdO d)) := fun u k => (k.block _ (by simp)).trans (heap_alloc_new W _)
  have hw : wrap64 (d.B + d.C) = d.B + d.C := by unfold wrap64; omega
  obtain ⟨B, C, M, pn, ln, cn, pc, LL, cc⟩ := d
  simp only at *
  obtain ⟨B, rfl⟩ := Int.eq_ofNat_of_zero_le h0
  obtain ⟨C, rfl⟩ := Int.eq_ofNat_of_zero_le (show 0 ≤ C by omega)
  clear hd hT ha hR
  go_enter Tryz.func6, Tryz.ntmps6
  go_upto_region 2 with (go_at_call 9; refine (HLV.out _ (below_alloc W _)).mono ?_; rintro e u1 ⟨rfl, k1⟩; have K1 := Lib.hid k1; obtain ⟨y0, y1, y2, y3, y4, y5⟩ := cells5w (HX1.out _ k1); clear k1 HLV)
  go_upto_region 3 with (go_at_call 12; refine (HFI.out _).mono ?_; rintro e z ⟨rfl, hz⟩; subst z; clear HFI)
  go_upto_region 6 with (go_at_call 12; refine (HFN.out _).mono ?_; rintro e z ⟨rfl, hz⟩; subst z; clear HFN)
  go_upto_region 7 with (go_at_call 11; refine (HMK.out _ (below_chain (below_alloc W _) K1.out)).mono ?_; rintro e u2 ⟨q, rfl, HQ⟩; clear HMK)
  have HB0 := Lib.hid (b0_new (d := ⟨B, C, M, pn, ln, cn, pc, LL, cc⟩) K1.out HQ.out.2 HQ.out.1)
  obtain ⟨v2, hv2⟩ : ∃ v2, v2 = u2.alloc (tO q) := ⟨_, rfl⟩
  obtain ⟨g4, hg4⟩ : ∃ g4, u2.heap.size = g4 := ⟨_, rfl⟩
  rw [hg4] at HB0 ⊢
  rw [← hv2] at HB0 ⊢
  clear HQ hv2 hg4 K1 y0 y1 y2 y3 y4 y5 HX1
  obtain ⟨y0, y1, y2, y3, y4, y5⟩ := cells5w HB0.out.b1
  go_upto_region 8 with (go_at_call 11; refine (HMN.out _ HB0.out.bl).mono ?_; rintro e u3 ⟨q2, rfl, HQ⟩; clear HMN)
  have HB2 := Lib.hid (b2_new HB0.out HQ.out.2 HQ.out.1)
  obtain ⟨v3, hv3⟩ : ∃ v3, v3 = u3.alloc (tO q2) := ⟨_, rfl⟩
  obtain ⟨g5, hg5⟩ : ∃ g5, u3.heap.size = g5 := ⟨_, rfl⟩
  rw [hg5] at HB2 ⊢
  rw [← hv3] at HB2 ⊢
  clear HQ hv3 hg5 HB0 y0 y1 y2 y3 y4 y5
  obtain ⟨y0, y1, y2, y3, y4, y5⟩ := cells5w HB2.out.b1
  go_upto_region 14 with (first
    | (go_at_call 10; refine (HRO.out _).mono ?_; rintro e z ⟨rfl, hz⟩; subst z)
    | (go_at_call 17; refine (HBE.out _ HB2.out.bl).mono ?_; rintro e u4 ⟨b, F, rfl, HZ⟩; have B3 := Lib.hid (HB2.out.on HZ.out.2.2); have C3 := Lib.hid (And.intro HZ.out.1 (HZ.out.2.1.mono HB2.out.bl.size)); clear HBE HZ y0 y1 y2 y3 y4 y5; obtain ⟨y0, y1, y2, y3, y4, y5⟩ := cells5w B3.out.b1))
  have HM3 := Lib.hid (mp_new u4 (R : Nat))
  have k3 := below_alloc u4 (mpO none 0 0 (R : Nat))
  have HB3 := Lib.hid (B3.out.on k3)
  have HC3 := Lib.hid (And.intro (C3.out.1.on k3) C3.out.2)
  have HS3 : Hid (Sep F [u4.heap.size]) := fun x hx hq => by
    have := C3.out.1.blw x hx
    rw [List.mem_singleton] at hq
    omega
  have HG3 : Hid (W.heap.size ≤ u4.heap.size) := B3.out.bl.size
  have HG4 : Hid (u4.heap.size < (u4.alloc (mpO none 0 0 (R : Nat))).heap.size) := by show _ < _; simp
  obtain ⟨v4, hv4⟩ : ∃ v4, v4 = u4.alloc (mpO none 0 0 (R : Nat)) := ⟨_, rfl⟩
  obtain ⟨g8, hg8⟩ : ∃ g8, u4.heap.size = g8 := ⟨_, rfl⟩
  rw [hg8] at HM3 HS3 HG3 HG4 ⊢
  rw [← hv4] at HM3 HB3 HC3 HG4 ⊢
  clear hv4 hg8 k3 B3 C3 HB2 y0 y1 y2 y3 y4 y5
  obtain ⟨y0, y1, y2, y3, y4, y5⟩ := cells5w HB3.out.b1
  go_upto_region 15 with (first
    | (go_at_call 10; refine (HRO.out _).mono ?_; rintro e z ⟨rfl, hz⟩; subst z; clear HRO))
  have HM4 := Lib.hid (mp_new v4 (R : Nat))
  have k4 := below_alloc v4 (mpO none 0 0 (R : Nat))
  have HB4 := Lib.hid (HB3.out.on k4)
  have HC4 := Lib.hid (And.intro (HC3.out.1.on k4) HC3.out.2)
  have HM3' := Lib.hid (HM3.out.on k4)
  have HS4 : Hid (Sep F [v4.heap.size]) := fun x hx hq => by
    have := HC3.out.1.blw x hx
    rw [List.mem_singleton] at hq
    omega
  have HG5 : Hid (W.heap.size ≤ v4.heap.size) := Nat.le_trans HG3.out (Nat.le_of_lt HG4.out)
  obtain ⟨v5, hv5⟩ : ∃ v5, v5 = v4.alloc (mpO none 0 0 (R : Nat)) := ⟨_, rfl⟩
  obtain ⟨g7, hg7⟩ : ∃ g7, v4.heap.size = g7 := ⟨_, rfl⟩
  rw [hg7] at HM4 HS4 HG5 HG4 ⊢
  rw [← hv5] at HM4 HM3' HB4 HC4 ⊢
  clear hv5 hg7 k4 HB3 HC3 HM3 y0 y1 y2 y3 y4 y5
  obtain ⟨y0, y1, y2, y3, y4, y5⟩ := cells5w HB4.out.b1
  go_upto_region 16 with (first
    | (go_at_call 18; refine (config_any _ _ _ _).mono ?_; rintro e u6 ⟨rfl, k5⟩; have K5 := Lib.hid (below_chain K4.out k5); clear k5)
    | (go_at_call 19; refine (HTO.out _).mono ?_; rintro e u5 ⟨rfl, k4⟩; have K4 := Lib.hid k4; clear k4 HTO))
  have k6 := below_alloc u6 (cfgO a 1 1024 8)
  have hb5 := HB4.out.on K5.out
  have hb6 := hb5.on k6
  have hbp : Bq ⟨(B : Int), (C : Int), M, pn, ln, cn, pc, LL, cc⟩ q q2 W.heap.size g4 g5 u6.heap.size a (u6.alloc (cfgO a 1 1024 8)) := ⟨⟨hb6.b1, hb6.b4, heap_alloc_new _ _⟩, hb6.b5⟩
  have hc6 := (HC4.out.1.on K5.out).on k6
  have hm6 := (HM3'.out.on K5.out).on k6
  have hm7 := (HM4.out.on K5.out).on k6
  have htw := HNEW.out _ q q2 b F hb6.bl HC4.out.2 hb6.tr hb6.tr2 hc6
  rw [HRR.out, Int.toNat_natCast, Int.toNat_natCast, Int.toNat_natCast, show ((B : Int) + (C : Int)).toNat = B + C by omega] at htw
  have hlb : ((lB ⟨(B : Int), (C : Int), M, pn, ln, cn, pc, LL, cc⟩ 2).map fixB).length = (totV ⟨(B : Int), (C : Int), M, pn, ln, cn, pc, LL, cc⟩ 2).toNat := by rw [List.length_map, lB_len]
  rw [HAA.out] at hlb
  have HBP := Lib.hid hbp
  have HPL : Hid (Ap W (u6.alloc (cfgO a 1 1024 8)) q q2 b F _ a B (B + C) R C g8 [g8] [] g7 [g7] []) := ⟨⟨htw.1, hm6, HS3.out, fun x hx => by rw [List.mem_singleton.1 hx]; exact HG3.out⟩, ⟨htw.2, hm7, HS4.out, fun x hx => by rw [List.mem_singleton.1 hx]; exact HG5.out⟩, fun x hx hy => by rw [List.mem_singleton] at hx hy; have := HG4.out; omega, .inl (Nat.le_refl _)⟩
  obtain ⟨s0, hs0⟩ : ∃ s0, (lB ⟨(B : Int), (C : Int), M, pn, ln, cn, pc, LL, cc⟩ 2).map fixB = s0 := ⟨_, rfl⟩
  rw [hs0] at HPL hlb HOT
  simp only [Int.toNat_natCast] at HOT
  have HLB := Lib.hid hlb
  obtain ⟨v6, hv6⟩ : ∃ v6, v6 = u6.alloc (cfgO a 1 1024 8) := ⟨_, rfl⟩
  obtain ⟨g9, hg9⟩ : ∃ g9, u6.heap.size = g9 := ⟨_, rfl⟩
  rw [hg9] at HBP ⊢
  rw [← hv6] at HBP HPL ⊢
  clear hv6 hg9 hs0 htw hm6 hm7 hc6 hbp hb5 hb6 k6 K5 K4 HB4 HC4 HM4 HM3' HS3 HS4 HG3 HG4 HG5 HNEW y0 y1 y2 y3 y4 y5 hlb HRR
  obtain ⟨y0, y1, y2, y3, y4, y5⟩ := cells5w HBP.out.p.b1
  have hll : (LL.length : Int) ≤ 9223372036854775807 := by have := HCL.out; omega
  go_wp2_with fail
  clear y0 y1 y2 y3 y4 y5
  obtain ⟨n0, hn0⟩ : ∃ n0, W.heap.size = n0 := ⟨_, rfl⟩
  rw [hn0] at HBP ⊢
  go_loopw [96] (fun v wr => ∃ k : Nat, v = .int .i64 k ∧ k ≤ LL.length ∧ Hid (Bq ⟨(B : Int), (C : Int), M, pn, ln, cn, pc, LL, cc⟩ q q2 n0 g4 g5 g9 a wr ∧ ∃ s G G2 L L2, Ap W wr q q2 b F s a B (B + C) R C g8 G L g7 G2 L2 ∧ Outside s0 s B (2 * C))) (fun v _ => LL.length - (intOf v).toNat)
  case atStart => exact ⟨0, rfl, Nat.zero_le _, HBP.out, s0, [g8], [g7], [], [], HPL.out, Outside.refl ..⟩
  case round =>
    obtain ⟨k, rfl, hk, HR⟩ := hrel
    clear HBP HPL
    obtain ⟨hbp, s, G, G2, L, L2, hpl, hou⟩ := HR.out
    have HBP := Lib.hid hbp
    have HPL := Lib.hid hpl
    have HOU := Lib.hid hou
    by_cases hlt : k < LL.length
    · have hlt' : (k : Int) < (LL.length : Int) := by omega
      obtain ⟨g, o, rfl, hg, x0, x1, x2, xb⟩ := (HCS.out.on hpl.p1.bl) k hlt
      have hcx := HCX.out (LL.getD k cal0) (by rw [List.getD_eq_getElem?_getD, List.getElem?_eq_getElem hlt]; exact List.getElem_mem hlt)
      obtain ⟨c, hc⟩ : ∃ c, LL.getD k cal0 = c := ⟨_, rfl⟩
      rw [hc] at x0 x1 x2 xb hcx
      clear hc
      obtain ⟨ck, co, cp, ccp, cl⟩ := c
      simp only at x0 x1 x2 xb
      have ka := below_alloc wr (opO ⟨ck, co, cp, ccp, cl⟩)
      have HCALL := Lib.hid (call_k (hpl.on ka).p1 hcx (xb.on ka))
      have HCALM := Lib.hid (call_k (hpl.on ka).p2 hcx (xb.on ka))
      rw [Int.natCast_add] at HCALM
      obtain ⟨y0, y1, y2, y3, y4, y5⟩ := cells5w hbp.p.b1
      obtain ⟨z0, z1, z2, z3, z4⟩ := Md.cells4 hbp.p.b9
      have h4 := hbp.p.b4
      have l4 := lt_of_block h4
      have h5 := hbp.b5
      have l5 := lt_of_block h5
      have HKA := Lib.hid ka
      cases co with
      | false =>
        clear hbp hpl hou HR xb hcx ka HCALM h5 l5
        go_wp2_with (first
          | (refine wpList_load_row rfl 28 _ rfl g4 rfl _ _ _ _ ((heap_alloc_old wr _ l4).trans h4) Tryz.underlying28 rfl treeInfo ?_)
          | (go_at_call 20; refine HCALL.out.mono ?_; rintro e u7 ⟨rfl, HZ⟩; clear HCALL))
        obtain ⟨s2, G3, p1, p2, p3⟩ := (HPL.out.on HKA.out).one HZ.out
        refine ⟨⟨k + 1, by first | rfl | (congr 1), by omega, ?_, s2, G3, G2, _, L2, p1, HOU.out.trans (p2.wide (by omega) (by omega))⟩, by simp [intOf]; omega⟩
        exact (HBP.out.on HKA.out).turn p3 (fun x arr T hx hT => (HPL.out.on HKA.out).no hx (by rcases hT with rfl | rfl | rfl <;> decide) (by rcases hT with rfl | rfl | rfl <;> decide) (by rcases hT with rfl | rfl | rfl <;> decide) (by rcases hT with rfl | rfl | rfl <;> decide))
      | true =>
        clear hbp hpl hou HR xb hcx ka HCALL h4 l4
        go_wp2_with (first
          | (refine wpList_load_row rfl 28 _ rfl g5 rfl _ _ _ _ ((heap_alloc_old wr _ l5).trans h5) Tryz.underlying28 rfl treeInfo ?_)
          | (go_at_call 20; refine HCALM.out.mono ?_; rintro e u7 ⟨rfl, HZ⟩; clear HCALM))
        obtain ⟨s2, G3, p1, p2, p3⟩ := (HPL.out.on HKA.out).symm.one HZ.out
        refine ⟨⟨k + 1, by first | rfl | (congr 1), by omega, ?_, s2, G, G3, L, _, p1.symm, HOU.out.trans (p2.wide (by omega) (by omega))⟩, by simp [intOf]; omega⟩
        exact (HBP.out.on HKA.out).turn p3 (fun x arr T hx hT => (HPL.out.on HKA.out).symm.no hx (by rcases hT with rfl | rfl | rfl <;> decide) (by rcases hT with rfl | rfl | rfl <;> decide) (by rcases hT with rfl | rfl | rfl <;> decide) (by rcases hT with rfl | rfl | rfl <;> decide))
    · have hlt' : ¬ (k : Int) < (LL.length : Int) := by omega
      obtain ⟨y0, y1, y2, y3, y4, y5⟩ := cells5w hbp.p.b1
      have HOTH := Lib.hid (HOT.out wr b F s hpl.p1.bl hpl.p1.tw.cel (by rw [← HLB.out, hou.1]) hou)
      have HBL := Lib.hid hpl.p1.bl
      clear hbp hpl hou HR HCS HCX HOT
      go_wp2_with (go_at_call 21; refine HOTH.out.mono ?_; rintro e u8 ⟨rfl, k8⟩; have K8 := Lib.hid k8; clear k8 HOTH)
      go_ret
      exact ⟨rfl, below_chain HBL.out K8.out⟩
end
end Go.Proofs.YtpboiggakehpoaaGreatDoor.Tr
namespace Go.Proofs.YtpboiggakehpoaaGreatDoor.Tr
open Go.ChangeShapes Go.WideShapes Go.ChangeAt Go.RowKit Num Go.Maps As
open Go.ChangeMaps Go.MapKept
attribute [local go_sem] run_store_float frombits_run bits_run
section
variable {W : World}
set_option maxRecDepth 100000 in
theorem apart_mid (hT : Shaped5 W) {d : Wd} (hd : WdIn W d) (h7 : 7 ≤ d.C) (h0 : 0 ≤ d.B) (hf : d.B + d.C ≤ 256) (hf2 : ¬ d.B + 2 * d.C ≤ 256) : Calls Tryz.prog 6 #[wdV d] W fun e w' => e = .returned (.bool true) ∧ Below W.heap.size W w' := by
  have HLV : Hid (∀ u, Below W.heap.size W u → _) := fun u hu => live_any (hT.on hu)
  have HMK : Hid (∀ u, Below W.heap.size W u → _) := fun u hu => make_A (hT.on hu) (b := d.B) (c := d.C) (by omega) h7 h0 hf
  have HMN : Hid (∀ u, _) := fun u => make_Z (w := u) (b := d.B + d.C) (c := d.C) (by omega) (by omega) (by omega)
  have HFI : Hid (∀ u, _) := fun u => fits_yes (b := d.B) (c := d.C) h7 h0 hf u
  have HFN : Hid (∀ u, _) := fun u => fits_no (b := d.B + d.C) (c := d.C) (by omega) (by omega) (by omega) u
  have HX1 : Hid (∀ u, Below (W.alloc (wdO d)).heap.size (W.alloc (wdO d)) u → u.heap[W.heap.size]? = some (wdO d)) := fun u k => (k.block _ (by simp)).trans (heap_alloc_new W _)
  have hw : wrap64 (d.B + d.C) = d.B + d.C := by unfold wrap64; omega
  obtain ⟨B, C, M, pn, ln, cn, pc, LL, cc⟩ := d
  simp only at *
  clear hd hT hf hf2
  go_enter Tryz.func6, Tryz.ntmps6
  go_upto_region 2 with (go_at_call 9; refine (HLV.out _ (below_alloc W _)).mono ?_; rintro e u1 ⟨rfl, k1⟩; have K1 := Lib.hid k1; obtain ⟨y0, y1, y2, y3, y4, y5⟩ := cells5w (HX1.out _ k1); clear k1 HLV)
  go_upto_region 3 with (go_at_call 12; refine (HFI.out _).mono ?_; rintro e z ⟨rfl, hz⟩; subst z; clear HFI)
  go_upto_region 6 with (go_at_call 12; refine (HFN.out _).mono ?_; rintro e z ⟨rfl, hz⟩; subst z; clear HFN)
  go_upto_region 7 with (go_at_call 11; refine (HMK.out _ (below_chain (below_alloc W _) K1.out)).mono ?_; rintro e u2 ⟨q, rfl, HQ⟩; clear HMK)
  have HB0 := Lib.hid (b0_new (d := ⟨B, C, M, pn, ln, cn, pc, LL, cc⟩) K1.out HQ.out.2 HQ.out.1)
  obtain ⟨v2, hv2⟩ : ∃ v2, v2 = u2.alloc (tO q) := ⟨_, rfl⟩
  obtain ⟨g4, hg4⟩ : ∃ g4, u2.heap.size = g4 := ⟨_, rfl⟩
  rw [hg4] at HB0 ⊢
  rw [← hv2] at HB0 ⊢
  clear HQ hv2 hg4 K1 y0 y1 y2 y3 y4 y5 HX1
  obtain ⟨y0, y1, y2, y3, y4, y5⟩ := cells5w HB0.out.b1
  go_wp2_with (go_at_call 11; refine (HMN.out _).mono ?_; rintro e u3 ⟨rfl, k3⟩; have K3 := Lib.hid k3; clear k3 HMN)
  go_ret
  exact ⟨rfl, below_chain (below_chain HB0.out.bl K3.out) (below_alloc _ _)⟩
set_option maxRecDepth 100000 in
theorem apart_no (hT : Shaped5 W) {d : Wd} (hd : WdIn W d) (hf : ¬ (7 ≤ d.C ∧ 0 ≤ d.B ∧ d.B + d.C ≤ 256)) : Calls Tryz.prog 6 #[wdV d] W fun e w' => e = .returned (.bool true) ∧ Below W.heap.size W w' := by
  have HLV : Hid (∀ u, Below W.heap.size W u → _) := fun u hu => live_any (hT.on hu)
  have HFI : Hid (∀ u, _) := fun u => fits_no (b := d.B) (c := d.C) hd.C.2 hd.C.1 hf u
  have HX1 : Hid (∀ u, Below (W.alloc (wdO d)).heap.size (W.alloc (wdO d)) u → u.heap[W.heap.size]? = some (wdO d)) := fun u k => (k.block _ (by simp)).trans (heap_alloc_new W _)
  obtain ⟨B, C, M, pn, ln, cn, pc, LL, cc⟩ := d
  simp only at *
  clear hd hT hf
  go_enter Tryz.func6, Tryz.ntmps6
  go_upto_region 2 with (go_at_call 9; refine (HLV.out _ (below_alloc W _)).mono ?_; rintro e u1 ⟨rfl, k1⟩; have K1 := Lib.hid k1; obtain ⟨y0, y1, y2, y3, y4, y5⟩ := cells5w (HX1.out _ k1); clear k1 HLV)
  go_wp2_with (go_at_call 12; refine (HFI.out _).mono ?_; rintro e z ⟨rfl, hz⟩; subst z; clear HFI)
  go_ret
  exact ⟨rfl, below_chain (below_alloc W _) K1.out⟩
theorem apart_any (hT : Shaped5 W) {d : Wd} (hd : WdIn W d) : Calls Tryz.prog 6 #[wdV d] W fun e w' => e = .returned (.bool true) ∧ Below W.heap.size W w' := by
  by_cases hf : 7 ≤ d.C ∧ 0 ≤ d.B ∧ d.B + d.C ≤ 256
  · by_cases h2 : d.B + 2 * d.C ≤ 256
    · exact apart_yes hT hd hf.1 hf.2.1 h2
    · exact apart_mid hT hd hf.1 hf.2.1 hf.2.2 h2
  · exact apart_no hT hd hf
end
end Go.Proofs.YtpboiggakehpoaaGreatDoor.Tr
